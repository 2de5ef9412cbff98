import PyProof.Rows.All
import Wide.All
import OpenK.AllK
import Wide.FinOn
import HandS.More
import HandS.Words
import KE.KStateDown
import HandS.HeadHook1
import HandS.HeadHook2
import HandS.Head0
import HandS.Head1
import HandS.Head2
import HandS.ForMost
import HandS.FStr
import HandS.IsInst
import HandS.Codes
import HandS.Walk
import HandS.RaiseMore
import HandS.Defaults
import HandS.Strs
import HandS.SetBool
import HandS.SetKeys
import HandS.DictComp
import HandS.TupAny
import HandS.DictSub
import KE.KCallOwn
import HandS.NoneIn
import HandS.OwnEq
import PyProof.ReprRoads
import PyProof.StrLawsRepr
import PyProof.FitsInt
import HandS.Deep
import PyProof.Rows.StrCase
import HandS.ForExc
import HandS.ExcInit
import HandS.ExcSuper
import KE.KExcSuper
import KE.KExcLine
import KE.KExcIs
import HandS.HotCalls
import HandS.ExcField
import HandS.ExcCtx
import HandS.Ends
import HandS.WordsExc
import HandS.Hot
import HandS.RaiseFrom
import HandS.SuiteRaise
import HandS.CallLocal
import HandS.TupMul
import HandS.Style
import HandS.TryMany
import HandS.ExcOwn
import PySem.Challenge.RW_stealhall_k01_works_of_any_thing
set_option Elab.async false
set_option linter.all false
set_option maxRecDepth 100000
/-! A head by one run: each def's object, and any other facts by Bools of what the module's names reach. -/
namespace SH
open PySem PySem.Spec PyProof.Rows L2
namespace HK
abbrev Fr : Type := PySem.W.Frag
/-- the function object at a global, at a class's method -/
def fdOf (K : Fr) (p : Str × Option Str) : Option FuncData := match K.lookup (He.fAd K p) with
  | some ⟨_, _, .func fd, _⟩ => some fd
  | _ => none
theorem fdOf_ok {K : Fr} {p : Str × Option Str} {fd : FuncData} (h : fdOf K p = some fd) : ∃ oc od sl, K.lookup (He.fAd K p) = some ⟨oc, od, .func fd, sl⟩ := by
  unfold fdOf at h
  cases q : K.lookup (He.fAd K p) with
  | none =>
    rw [q] at h
    cases h
  | some o =>
    obtain ⟨oc, od, dt, sl⟩ := o
    rw [q] at h
    cases dt with
    | func f =>
      have e : f = fd := Option.some.inj h
      rw [e]
      exact ⟨oc, od, sl, rfl⟩
    | _ => cases h
def ra : Value → Addr
  | .ref a => a
  | _ => 0
def isR : Value → Bool
  | .ref _ => true
  | _ => false
theorem isR_ok {v : Value} (h : isR v = true) : v = .ref (ra v) := by
  cases v with
  | ref a => rfl
  | _ => cases h
def isN : Value → Bool
  | .none => true
  | _ => false
theorem isN_ok {v : Value} (h : isN v = true) : v = .none := by
  cases v with
  | none => rfl
  | _ => cases h
def cl1 : List (Str × Addr) → Bool
  | [q] => decide (q.1 = "__class__")
  | _ => false
def ca : List (Str × Addr) → Addr
  | q :: _ => q.2
  | [] => 0
theorem cl1_ok {l : List (Str × Addr)} (h : cl1 l = true) : l = ([("__class__", ca l)] : List (Str × Addr)) := by
  cases l with
  | nil => cases h
  | cons q r =>
    obtain ⟨x, a⟩ := q
    cases r with
    | nil =>
      have e : x = "__class__" := of_decide_eq_true h
      rw [e]
      rfl
    | cons _ _ => cases h
/-- a def of the top: its class, its name, its whole name, its text, what its object holds besides -/
inductive Kd where
  | plain | kw | dfl | sup
structure FD where
  at_ : Str × Option Str
  name : Str
  qual : Str
  st : Stmt
  kd : Kd
abbrev Fv : Type := Option (Str × Str × Arguments × FuncBody × Scope × Addr × Addr)
def fv (K : Fr) (p : Str × Option Str) : Fv := match fdOf K p with
  | some fd => some (fd.name, fd.qualname, fd.params, fd.body, fd.scope, fd.globals, fd.builtins)
  | none => none
def FD.val (d : FD) : Fv := some (d.name, d.qual, defArgs d.st, .stmts (defBody d.st), defScope d.st, mainGlobals, builtinsNs)
def Kd.ok (fd : FuncData) : Kd → Bool
  | .plain => fd.closure.isEmpty && isN fd.defaults
  | .kw => (fd.closure.isEmpty && isN fd.defaults) && isR fd.kwdefaults
  | .dfl => fd.closure.isEmpty && isR fd.defaults
  | .sup => (cl1 fd.closure && isN fd.defaults) && isR fd.code
def FD.ok (K : Fr) (d : FD) : Bool := match fdOf K d.at_ with
  | some fd => PySem.W.keepIn K (.ref (He.fAd K d.at_)) && (PySem.W.codeIn K fd.code d.qual && d.kd.ok fd)
  | none => false
/-- the addresses that it holds -/
def kwA (K : Fr) (p : Str × Option Str) : Addr := match fdOf K p with
  | some fd => ra fd.kwdefaults
  | none => 0
def dfA (K : Fr) (p : Str × Option Str) : Addr := match fdOf K p with
  | some fd => ra fd.defaults
  | none => 0
def cdA (K : Fr) (p : Str × Option Str) : Addr := match fdOf K p with
  | some fd => ra fd.code
  | none => 0
def ccA (K : Fr) (p : Str × Option Str) : Addr := match fdOf K p with
  | some fd => ca fd.closure
  | none => 0
theorem FD.got {K : Fr} {d : FD} (e : fv K d.at_ = d.val) (c : d.ok K = true) : ∃ (fd : FuncData) (cl : List (Str × Addr)) (dV kV doc pm : Value) (an : Option Addr) (cdv ct : Value), fdOf K d.at_ = some fd ∧
    fd = { name := d.name, qualname := d.qual, params := defArgs d.st, body := .stmts (defBody d.st), scope := defScope d.st, globals := mainGlobals, closure := cl, defaults := dV, kwdefaults := kV, doc := doc, pyModule := pm, annotations := an, code := cdv, closureTuple := ct, builtins := builtinsNs } ∧
    PySem.W.keepIn K (.ref (He.fAd K d.at_)) = true ∧ PySem.W.codeIn K cdv d.qual = true ∧ d.kd.ok fd = true := by
  unfold fv at e
  unfold FD.ok at c
  cases q : fdOf K d.at_ with
  | none =>
    rw [q] at c
    cases c
  | some fd =>
    rw [q] at c e
    obtain ⟨c0, c⟩ := He.ba c
    obtain ⟨c1, c2⟩ := He.ba c
    obtain ⟨n1, n2, n3, n4, n5, n6, n7, n8, n9, n10, n11, n12, n13, n14, n15⟩ := fd
    have e2 : (some (n1, n2, n3, n4, n5, n6, n15) : Fv) = some (d.name, d.qual, defArgs d.st, .stmts (defBody d.st), defScope d.st, mainGlobals, builtinsNs) := e
    simp only [Option.some.injEq, Prod.mk.injEq] at e2
    obtain ⟨h1, h2, h3, h4, h5, h6, h8⟩ := e2
    subst h1 h2 h3 h4 h5 h6 h8
    exact ⟨_, n7, n8, n9, n10, n11, n12, n13, n14, rfl, rfl, c0, c1, c2⟩
section
variable {K : Fr}
theorem fn_plain {p : Str × Option Str} {x y : Str} {st : Stmt} (e : fv K p = FD.val ⟨p, x, y, st, .plain⟩) (c : FD.ok K ⟨p, x, y, st, .plain⟩ = true) :
    ∃ oc od sl kV doc pm an cd ct, K.lookup (He.fAd K p) = some ⟨oc, od, .func (PySem.W.fnOf x y (defArgs st) (defBody st) (defScope st) .none kV doc pm an cd ct), sl⟩ ∧ PySem.W.codeIn K cd y = true ∧ PySem.W.keepIn K (.ref (He.fAd K p)) = true := by
  obtain ⟨fd, cl, dV, kV, doc, pm, an, cdv, ct, h1, h2, h0, h3, h4⟩ := FD.got (d := ⟨p, x, y, st, .plain⟩) e c
  obtain ⟨oc, od, sl, h5⟩ := fdOf_ok h1
  subst h2
  obtain ⟨h6, h7⟩ := He.ba h4
  have e1 : cl = [] := List.isEmpty_iff.mp h6
  have e2 : dV = .none := isN_ok h7
  subst e1 e2
  exact ⟨oc, od, sl, kV, doc, pm, an, cdv, ct, h5, h3, h0⟩
theorem fn_kw {p : Str × Option Str} {x y : Str} {st : Stmt} (e : fv K p = FD.val ⟨p, x, y, st, .kw⟩) (c : FD.ok K ⟨p, x, y, st, .kw⟩ = true) :
    ∃ oc od sl doc pm an cd ct, K.lookup (He.fAd K p) = some ⟨oc, od, .func (PySem.W.fnOf x y (defArgs st) (defBody st) (defScope st) .none (.ref (kwA K p)) doc pm an cd ct), sl⟩ ∧ PySem.W.codeIn K cd y = true ∧ PySem.W.keepIn K (.ref (He.fAd K p)) = true := by
  obtain ⟨fd, cl, dV, kV, doc, pm, an, cdv, ct, h1, h2, h0, h3, h4⟩ := FD.got (d := ⟨p, x, y, st, .kw⟩) e c
  obtain ⟨oc, od, sl, h5⟩ := fdOf_ok h1
  subst h2
  obtain ⟨h4, h8⟩ := He.ba h4
  obtain ⟨h6, h7⟩ := He.ba h4
  have e1 : cl = [] := List.isEmpty_iff.mp h6
  have e2 : dV = .none := isN_ok h7
  have e3 : kV = .ref (ra kV) := isR_ok h8
  have e4 : kwA K p = ra kV := by
    unfold kwA
    rw [h1]
  rw [e4, ← e3]
  subst e1 e2
  exact ⟨oc, od, sl, doc, pm, an, cdv, ct, h5, h3, h0⟩
theorem fn_dfl {p : Str × Option Str} {x y : Str} {st : Stmt} (e : fv K p = FD.val ⟨p, x, y, st, .dfl⟩) (c : FD.ok K ⟨p, x, y, st, .dfl⟩ = true) :
    ∃ oc od sl kV doc pm an cd ct, K.lookup (He.fAd K p) = some ⟨oc, od, .func (PySem.W.fnOf x y (defArgs st) (defBody st) (defScope st) (.ref (dfA K p)) kV doc pm an cd ct), sl⟩ ∧ PySem.W.codeIn K cd y = true ∧ PySem.W.keepIn K (.ref (He.fAd K p)) = true := by
  obtain ⟨fd, cl, dV, kV, doc, pm, an, cdv, ct, h1, h2, h0, h3, h4⟩ := FD.got (d := ⟨p, x, y, st, .dfl⟩) e c
  obtain ⟨oc, od, sl, h5⟩ := fdOf_ok h1
  subst h2
  obtain ⟨h6, h7⟩ := He.ba h4
  have e1 : cl = [] := List.isEmpty_iff.mp h6
  have e3 : dV = .ref (ra dV) := isR_ok h7
  have e4 : dfA K p = ra dV := by
    unfold dfA
    rw [h1]
  rw [e4, ← e3]
  subst e1
  exact ⟨oc, od, sl, kV, doc, pm, an, cdv, ct, h5, h3, h0⟩
theorem fn_sup {p : Str × Option Str} {x y : Str} {st : Stmt} (e : fv K p = FD.val ⟨p, x, y, st, .sup⟩) (c : FD.ok K ⟨p, x, y, st, .sup⟩ = true) :
    ∃ oc od sl kV doc pm an ct, K.lookup (He.fAd K p) = some ⟨oc, od, .func (PySem.W.ksFn x y (defArgs st) (defBody st) (defScope st) .none kV doc pm an (.ref (cdA K p)) ct (ccA K p)), sl⟩ ∧ PySem.W.codeIn K (.ref (cdA K p)) y = true ∧ PySem.W.keepIn K (.ref (He.fAd K p)) = true := by
  obtain ⟨fd, cl, dV, kV, doc, pm, an, cdv, ct, h1, h2, h0, h3, h4⟩ := FD.got (d := ⟨p, x, y, st, .sup⟩) e c
  obtain ⟨oc, od, sl, h5⟩ := fdOf_ok h1
  subst h2
  obtain ⟨h4, h8⟩ := He.ba h4
  obtain ⟨h6, h7⟩ := He.ba h4
  have e1 : cl = ([("__class__", ca cl)] : List (Str × Addr)) := cl1_ok h6
  have e2 : dV = .none := isN_ok h7
  have e3 : cdv = .ref (ra cdv) := isR_ok h8
  have e4 : cdA K p = ra cdv := by
    unfold cdA
    rw [h1]
  have e5 : ccA K p = ca cl := by
    unfold ccA
    rw [h1]
  rw [e4, ← e3, e5]
  subst e2
  refine ⟨oc, od, sl, kV, doc, pm, an, ct, ?_, h3, h0⟩
  rw [h5]
  show some (⟨oc, od, .func { name := x, qualname := y, params := defArgs st, body := .stmts (defBody st), scope := defScope st, globals := mainGlobals, closure := cl, defaults := .none, kwdefaults := kV, doc := doc, pyModule := pm, annotations := an, code := cdv, closureTuple := ct, builtins := builtinsNs }, sl⟩ : Obj) = some ⟨oc, od, .func { name := x, qualname := y, params := defArgs st, body := .stmts (defBody st), scope := defScope st, globals := mainGlobals, closure := [("__class__", ca cl)], defaults := .none, kwdefaults := kV, doc := doc, pyModule := pm, annotations := an, code := cdv, closureTuple := ct, builtins := builtinsNs }, sl⟩
  rw [← e1]
/-! ### values that hold a token or a place of no matter -/
def intAt (K : Fr) (D : Addr) (x : Str) (i : Int) : Bool := match PySem.W.nsIn K D x with
  | some (some (.int j _)) => decide (j = i)
  | _ => false
theorem intAt_ok {D : Addr} {x : Str} {i : Int} (c : intAt K D x i = true) : ∃ t, PySem.W.nsIn K D x = some (some (.int i t)) := by
  unfold intAt at c
  split at c
  · rename_i j t e
    have ej : j = i := of_decide_eq_true c
    rw [e, ej]
    exact ⟨t, rfl⟩
  · cases c
def strAt (K : Fr) (D : Addr) (x z : Str) : Bool := match PySem.W.nsIn K D x with
  | some (some (.str y _)) => decide (y = z)
  | _ => false
theorem strAt_ok {D : Addr} {x z : Str} (c : strAt K D x z = true) : ∃ t, PySem.W.nsIn K D x = some (some (.str z t)) := by
  unfold strAt at c
  split at c
  · rename_i j t e
    have ej : j = z := of_decide_eq_true c
    rw [e, ej]
    exact ⟨t, rfl⟩
  · cases c
/-- a tuple of these -/
def tupAt (K : Fr) (a : Addr) (vs : List V) : Bool := match K.lookup a with
  | some ⟨.type c, _, .seq its _, _⟩ => decide (c = "tuple") && He.relAll vs its.toList
  | _ => false
theorem tupAt_ok {a : Addr} {vs : List V} (h : tupAt K a vs = true) : ∃ d i n s, K.lookup a = some ⟨.type "tuple", d, .seq (List.toArray i) n, s⟩ ∧ Vals vs i := by
  unfold tupAt at h
  split at h
  · rename_i c d its n s e
    obtain ⟨h1, h2⟩ := He.ba h
    have ec : c = "tuple" := of_decide_eq_true h1
    subst ec
    exact ⟨d, its.toList, n, s, by rw [e, Array.toArray_toList], He.relAll_ok h2⟩
  · cases h
def seqAt (K : Fr) (a : Addr) (vs : List V) : Bool := match K.lookup a with
  | some ⟨_, _, .seq its _, _⟩ => He.relAll vs its.toList
  | _ => false
theorem seqAt_ok {a : Addr} {vs : List V} (h : seqAt K a vs = true) : ∃ (o : Obj) (i : List Value) (n : Nat), K.lookup a = some o ∧ o.data = .seq i.toArray n ∧ Vals vs i := by
  unfold seqAt at h
  split at h
  · rename_i c d its n s e
    exact ⟨_, its.toList, n, e, by rw [Array.toArray_toList], He.relAll_ok h⟩
  · cases h
/-- an error's class -/
def mroTail : List Value → List Value
  | _ :: r => r
  | [] => []
def excAt (K : Fr) (C : Addr) (bm : List Value) (B : String) : Bool := match K.lookup C with
  | some ⟨c, _, .cls cd, sl⟩ => decide (c = .type "type") && (decide (cd.mro = .ref C :: bm) && (cd.hasDict && (!cd.hasDel && (match sl.toList with
    | [_, _, _, _, v, _] => decide (v = some (.builtin B))
    | _ => false))))
  | _ => false
theorem excAt_ok {C : Addr} {bm : List Value} {B : String} (h : excAt K C bm B = true) : ∃ nm q N bs bm' sn sub ab col dd k0 k1 k2 k3 k5, K.lookup C = some (excClassObj nm q C N bs bm' true sn sub ab col dd k0 k1 k2 k3 k5 B) ∧ bm' = bm := by
  unfold excAt at h
  split at h
  · rename_i c dd cd sl e
    obtain ⟨h1, h⟩ := He.ba h
    obtain ⟨h2, h⟩ := He.ba h
    obtain ⟨h3, h⟩ := He.ba h
    obtain ⟨h4, h5⟩ := He.ba h
    have e1 : c = .type "type" := of_decide_eq_true h1
    have e2 : cd.mro = .ref C :: bm := of_decide_eq_true h2
    have e4 : cd.hasDel = false := by
      cases z : cd.hasDel with
      | false => rfl
      | true =>
        rw [z] at h4
        cases h4
    split at h5
    · rename_i k0 k1 k2 k3 v k5 e5
      have e6 : v = some (.builtin B) := of_decide_eq_true h5
      have e7 : sl = #[k0, k1, k2, k3, some (.builtin B), k5] := by
        rw [← e6]
        apply Array.toList_inj.mp
        exact e5
      obtain ⟨a1, a2, a3, a4, a5, a6, a7, a8, a9, a10, a11⟩ := cd
      refine ⟨a1, a5, a4, a2, bm, a7, a8, a9, a10, dd, k0, k1, k2, k3, k5, ?_, rfl⟩
      rw [e, e1, e7]
      have e2' : a3 = .ref C :: bm := e2
      have e3' : a6 = true := h3
      have e4' : a11 = false := e4
      rw [e2', e3', e4']
    · cases h5
  · cases h
/-- the file that a code object names -/
def fileAt (K : Fr) (c : Addr) (F : Str) : Bool := match K.lookup c with
  | some ⟨_, _, .fields vs, _⟩ => (match (vs[2]? : Option Value) with
    | some (.str x _) => F == x
    | _ => false)
  | _ => false
theorem fileAt_ok {c : Addr} {F : Str} (h : fileAt K c F = true) : ∃ cl cd vs cs file tf, K.lookup c = some ⟨cl, cd, .fields vs, cs⟩ ∧ vs[2]? = some (.str file tf) ∧ (F == file) = true := by
  unfold fileAt at h
  split at h
  · rename_i cl cd vs cs e
    split at h
    · rename_i x t e2
      exact ⟨cl, cd, vs, cs, x, t, e, e2, h⟩
    · cases h
  · cases h
def cellAt (K : Fr) (c C : Addr) : Bool := match K.lookup c with
  | some ⟨_, _, .cell (some v), _⟩ => decide (v = .ref C)
  | _ => false
theorem cellAt_ok {c C : Addr} (h : cellAt K c C = true) : ∃ cl cld csl, K.lookup c = some ⟨cl, cld, .cell (some (.ref C)), csl⟩ := by
  unfold cellAt at h
  split at h
  · rename_i cl cld v csl e
    have ev : v = .ref C := of_decide_eq_true h
    rw [e, ev]
    exact ⟨cl, cld, csl, rfl⟩
  · cases h
end
/-! ### the Hook -/
abbrev Al : Type := Bool × List Fv
def obs (fa : List (Fr → Bool)) (fn : List FD) (K : Fr) : Al := ((fa.all fun f => f K) && fn.all fun d => d.ok K, fn.map fun d => fv K d.at_)
def val (fn : List FD) : Al := (true, fn.map FD.val)
def Says (fa : List (Fr → Bool)) (fn : List FD) (K : Fr) : Prop := obs fa fn K = val fn
/-- what an object of the top holds: a def its code, defaults and cells, a class and a dict their names' -/
def own (o : Obj) : List Addr := match o.data with
  | .func fd => He.refV fd.code ++ (He.refV fd.defaults ++ (He.refV fd.kwdefaults ++ fd.closure.map (·.2)))
  | .cls cd => [cd.ns]
  | .dict es _ => es.toList.flatMap fun e => He.refV e.val
  | _ => []
def next (g : Addr → Option Obj) (as : List Addr) : List Addr := as.flatMap fun a => match g a with
  | some o => own o
  | none => []
/-- n steps from the module's names (4 reach a method's code) -/
def lvls (g : Addr → Option Obj) : Nat → List Addr → List Addr
  | 0, as => as
  | n + 1, as => as ++ lvls g n (next g as)
def obsG (n : Nat) (fa : List (Fr → Bool)) (fn : List FD) (g : Addr → Option Obj) : Al := obs fa fn (He.frG g (cStatics :: lvls g n [mainGlobals]))
def hook (n : Nat) (fa : List (Fr → Bool)) (fn : List FD) : PySem.W.Hook where
  α := Al
  obs := fun s => obsG n fa fn s.heap.get?
  val := fun _ => val fn
  says := fun _ h => ∃ K : PySem.W.Frag, K.In h ∧ Says fa fn K
  of := fun _ _ e => ⟨_, He.frG_in, e⟩
  keeps := fun _ _ _ ⟨K, hK, c⟩ k => ⟨K, PySem.W.Frag.In.keeps hK k, c⟩
theorem obsG_eq {n : Nat} {fa : List (Fr → Bool)} {fn : List FD} {g : Addr → Option Obj} {s : Shared} (h : ∀ a, g a = s.heap.get? a) : obsG n fa fn g = (hook n fa fn).obs s := by
  have e : g = s.heap.get? := funext h
  rw [e] <;> rfl
section
variable {fa : List (Fr → Bool)} {fn : List FD} {K : Fr}
theorem Says.fact (c : Says fa fn K) (i : Nat) {f : Fr → Bool} (h : fa[i]? = some f := by rfl) : f K = true := by
  have c1 := (He.ba (show ((fa.all fun f => f K) && fn.all fun d => d.ok K) = true from congrArg (fun z : Al => z.1) c)).1
  exact List.all_eq_true.mp c1 f (List.mem_of_getElem? h)
theorem Says.one (c : Says fa fn K) (i : Nat) {d : FD} (h : fn[i]? = some d) : fv K d.at_ = d.val ∧ d.ok K = true := by
  have c2 := (He.ba (show ((fa.all fun f => f K) && fn.all fun d => d.ok K) = true from congrArg (fun z : Al => z.1) c)).2
  have e : fn.map (fun d => fv K d.at_) = fn.map FD.val := congrArg (fun z : Al => z.2) c
  have e2 : (fn.map fun d => fv K d.at_)[i]? = (fn.map FD.val)[i]? := by rw [e]
  rw [List.getElem?_map, List.getElem?_map, h] at e2
  exact ⟨Option.some.inj e2, List.all_eq_true.mp c2 d (List.mem_of_getElem? h)⟩
theorem Says.plain (c : Says fa fn K) (i : Nat) {p : Str × Option Str} {x y : Str} {st : Stmt} (h : fn[i]? = some ⟨p, x, y, st, .plain⟩) :
    ∃ oc od sl kV doc pm an cd ct, K.lookup (He.fAd K p) = some ⟨oc, od, .func (PySem.W.fnOf x y (defArgs st) (defBody st) (defScope st) .none kV doc pm an cd ct), sl⟩ ∧ PySem.W.codeIn K cd y = true ∧ PySem.W.keepIn K (.ref (He.fAd K p)) = true :=
  fn_plain (c.one i h).1 (c.one i h).2
theorem Says.kw (c : Says fa fn K) (i : Nat) {p : Str × Option Str} {x y : Str} {st : Stmt} (h : fn[i]? = some ⟨p, x, y, st, .kw⟩) :
    ∃ oc od sl doc pm an cd ct, K.lookup (He.fAd K p) = some ⟨oc, od, .func (PySem.W.fnOf x y (defArgs st) (defBody st) (defScope st) .none (.ref (kwA K p)) doc pm an cd ct), sl⟩ ∧ PySem.W.codeIn K cd y = true ∧ PySem.W.keepIn K (.ref (He.fAd K p)) = true :=
  fn_kw (c.one i h).1 (c.one i h).2
theorem Says.dfl (c : Says fa fn K) (i : Nat) {p : Str × Option Str} {x y : Str} {st : Stmt} (h : fn[i]? = some ⟨p, x, y, st, .dfl⟩) :
    ∃ oc od sl kV doc pm an cd ct, K.lookup (He.fAd K p) = some ⟨oc, od, .func (PySem.W.fnOf x y (defArgs st) (defBody st) (defScope st) (.ref (dfA K p)) kV doc pm an cd ct), sl⟩ ∧ PySem.W.codeIn K cd y = true ∧ PySem.W.keepIn K (.ref (He.fAd K p)) = true :=
  fn_dfl (c.one i h).1 (c.one i h).2
theorem Says.sup (c : Says fa fn K) (i : Nat) {p : Str × Option Str} {x y : Str} {st : Stmt} (h : fn[i]? = some ⟨p, x, y, st, .sup⟩) :
    ∃ oc od sl kV doc pm an ct, K.lookup (He.fAd K p) = some ⟨oc, od, .func (PySem.W.ksFn x y (defArgs st) (defBody st) (defScope st) .none kV doc pm an (.ref (cdA K p)) ct (ccA K p)), sl⟩ ∧ PySem.W.codeIn K (.ref (cdA K p)) y = true ∧ PySem.W.keepIn K (.ref (He.fAd K p)) = true :=
  fn_sup (c.one i h).1 (c.one i h).2
end
end HK
end SH

set_option Elab.async false
set_option linter.all false
set_option maxRecDepth 100000
namespace SH
open PySem L2
def topS (i : Nat) : Stmt := PySem.Challenge.pw_stealhall_k01_works_of_any_thing.main.body.getD i (.Pass ⟨0, 0, 0, 0⟩)
end SH

set_option Elab.async false
set_option linter.all false
set_option maxRecDepth 100000
namespace SH
open PySem L2
set_option maxHeartbeats 8000000
abbrev fa_0 : HK.Fr → Bool := fun K => HK.strAt K mainGlobals "LETTERS" "abcdefghijklmnopqrstuvwxyz"
abbrev fa_1 : HK.Fr → Bool := fun K => HK.intAt K mainGlobals "MOST_ROWS" 40
abbrev fa_2 : HK.Fr → Bool := fun K => HK.intAt K mainGlobals "MOST_NAMES" 4
abbrev fa_3 : HK.Fr → Bool := fun K => HK.intAt K mainGlobals "MOST_EXPRESSIONS" 4
abbrev fa_4 : HK.Fr → Bool := fun K => HK.intAt K mainGlobals "MOST_IFS" 3
abbrev fa_5 : HK.Fr → Bool := fun K => HK.intAt K mainGlobals "MOST_LETTERS" 8
abbrev fa_6 : HK.Fr → Bool := fun K => HK.intAt K mainGlobals "MOST_ROOM" 1000
abbrev fa_7 : HK.Fr → Bool := fun K => HK.intAt K mainGlobals "MOST_NUMBER" 999999999999999999999999999999
abbrev fa_8 : HK.Fr → Bool := fun K => HK.intAt K mainGlobals "NO_ROWS" (-1)
abbrev fa_9 : HK.Fr → Bool := fun K => HK.tupAt K (He.ga K "WORDS") ([V.str "work", V.str "room", V.str "go", V.str "call", V.str "wait", V.str "if", V.str "else", V.str "end", V.str "give", V.str "fail"])
abbrev fa_10 : HK.Fr → Bool := fun K => HK.tupAt K (He.ga K "SIGNS") ([V.str "+", V.str "-", V.str "*", V.str "<", V.str "=="])
abbrev fa_11 : HK.Fr → Bool := fun K => HK.seqAt K (HK.dfA K ("is_expression", none)) [V.int 6]
abbrev fa_12 : HK.Fr → Bool := fun K => decide ((PySem.W.nsIn K mainGlobals "check_work" = some (some (.ref (He.ga K "check_work")))) ∧ (PySem.W.nsIn K mainGlobals "is_work" = some (some (.ref (He.ga K "is_work")))) ∧ (PySem.W.nsIn K mainGlobals "is_tuple_of" = some (some (.ref (He.ga K "is_tuple_of")))) ∧ (PySem.W.nsIn K mainGlobals "is_whole" = some (some (.ref (He.ga K "is_whole")))) ∧ (PySem.W.nsIn K mainGlobals "is_whole_within" = some (some (.ref (He.ga K "is_whole_within")))) ∧ (PySem.W.nsIn K mainGlobals "is_name" = some (some (.ref (He.ga K "is_name")))) ∧ (PySem.W.nsIn K mainGlobals "are_names" = some (some (.ref (He.ga K "are_names")))) ∧ (PySem.W.nsIn K mainGlobals "is_expression" = some (some (.ref (He.ga K "is_expression")))) ∧ (PySem.W.nsIn K mainGlobals "is_leaf" = some (some (.ref (He.ga K "is_leaf")))) ∧ (PySem.W.nsIn K mainGlobals "are_expressions" = some (some (.ref (He.ga K "are_expressions")))))
abbrev fa_13 : HK.Fr → Bool := fun K => decide ((PySem.W.nsIn K mainGlobals "rows_left" = some (some (.ref (He.ga K "rows_left")))) ∧ (PySem.W.nsIn K mainGlobals "row_left" = some (some (.ref (He.ga K "row_left")))) ∧ (PySem.W.nsIn K mainGlobals "branches_left" = some (some (.ref (He.ga K "branches_left")))) ∧ (PySem.W.nsIn K mainGlobals "is_if_head" = some (some (.ref (He.ga K "is_if_head")))) ∧ (PySem.W.nsIn K mainGlobals "is_plain_row" = some (some (.ref (He.ga K "is_plain_row")))) ∧ (PySem.W.nsIn K mainGlobals "_law_bag" = some (some (.ref (He.ga K "_law_bag")))) ∧ (PySem.W.nsIn K mainGlobals "_law_take" = some (some (.ref (He.ga K "_law_take")))) ∧ (PySem.W.nsIn K mainGlobals "_law_kept" = some (some (.ref (He.ga K "_law_kept")))) ∧ (PySem.W.nsIn K mainGlobals "_law_names" = some (some (.ref (He.ga K "_law_names")))) ∧ (PySem.W.nsIn K mainGlobals "_law_number" = some (some (.ref (He.ga K "_law_number")))))
abbrev fa_14 : HK.Fr → Bool := fun K => decide ((PySem.W.nsIn K mainGlobals "_law_tree" = some (some (.ref (He.ga K "_law_tree")))) ∧ (PySem.W.nsIn K mainGlobals "_law_row" = some (some (.ref (He.ga K "_law_row")))) ∧ (PySem.W.nsIn K mainGlobals "_law_rows" = some (some (.ref (He.ga K "_law_rows")))) ∧ (PySem.W.nsIn K mainGlobals "_law_works" = some (some (.ref (He.ga K "_law_works")))) ∧ (PySem.W.nsIn K mainGlobals "_law_any" = some (some (.ref (He.ga K "_law_any")))) ∧ (PySem.W.nsIn K mainGlobals "_law_spoilt" = some (some (.ref (He.ga K "_law_spoilt")))) ∧ (PySem.W.nsIn K mainGlobals "_law_whole" = some (some (.ref (He.ga K "_law_whole")))) ∧ (PySem.W.nsIn K mainGlobals "_law_is_name" = some (some (.ref (He.ga K "_law_is_name")))) ∧ (PySem.W.nsIn K mainGlobals "_law_deep" = some (some (.ref (He.ga K "_law_deep")))) ∧ (PySem.W.nsIn K mainGlobals "_law_is_list" = some (some (.ref (He.ga K "_law_is_list")))))
abbrev fa_15 : HK.Fr → Bool := fun K => decide ((PySem.W.nsIn K mainGlobals "_law_is_tree" = some (some (.ref (He.ga K "_law_is_tree")))) ∧ (PySem.W.nsIn K mainGlobals "_law_count" = some (some (.ref (He.ga K "_law_count")))) ∧ (PySem.W.nsIn K mainGlobals "_law_row_count" = some (some (.ref (He.ga K "_law_row_count")))) ∧ (PySem.W.nsIn K mainGlobals "_law_is_work" = some (some (.ref (He.ga K "_law_is_work")))) ∧ (PySem.W.nsIn K mainGlobals "_law_refusal" = some (some (.ref (He.ga K "_law_refusal")))) ∧ (PySem.W.nsIn K mainGlobals "_law_said" = some (some (.ref (He.ga K "_law_said")))) ∧ (PySem.W.nsIn K mainGlobals "_law_twin" = some (some (.ref (He.ga K "_law_twin")))) ∧ (PySem.W.nsIn K mainGlobals "_law_deeper" = some (some (.ref (He.ga K "_law_deeper")))) ∧ (PySem.W.nsIn K mainGlobals "_law_edges" = some (some (.ref (He.ga K "_law_edges")))) ∧ (PySem.W.nsIn K mainGlobals "law" = some (some (.ref (He.ga K "law")))))
abbrev fa_16 : HK.Fr → Bool := fun K => decide ((PySem.W.nsIn K mainGlobals "len" = some none) ∧ (PySem.W.nsIn K mainGlobals "abs" = some none) ∧ (PySem.W.nsIn K mainGlobals "int" = some none) ∧ (PySem.W.nsIn K mainGlobals "str" = some none) ∧ (PySem.W.nsIn K mainGlobals "range" = some none) ∧ (PySem.W.nsIn K mainGlobals "max" = some none) ∧ (PySem.W.nsIn K mainGlobals "min" = some none) ∧ (PySem.W.nsIn K mainGlobals "isinstance" = some none) ∧ (PySem.W.nsIn K mainGlobals "all" = some none) ∧ (PySem.W.nsIn K mainGlobals "tuple" = some none))
abbrev fa_17 : HK.Fr → Bool := fun K => decide ((PySem.W.nsIn K mainGlobals "bool" = some none) ∧ (PySem.W.nsIn K mainGlobals "set" = some none) ∧ (PySem.W.nsIn K mainGlobals "list" = some none) ∧ (PySem.W.nsIn K mainGlobals "repr" = some none) ∧ (PySem.W.nsIn K mainGlobals "sum" = some none) ∧ (PySem.W.nsIn K mainGlobals "ValueError" = some none) ∧ (PySem.W.nsIn K mainGlobals "LookupError" = some none) ∧ (PySem.W.nsIn K mainGlobals "RuntimeError" = some none) ∧ (PySem.W.nsIn K mainGlobals "ArithmeticError" = some none) ∧ (PySem.W.nsIn K mainGlobals "KeyError" = some none))
abbrev fa_18 : HK.Fr → Bool := fun K => decide ((PySem.W.nsIn K mainGlobals "IndexError" = some none) ∧ (PySem.W.nsIn K mainGlobals "ZeroDivisionError" = some none) ∧ (PySem.W.nsIn K mainGlobals "WORDS" = some (some (.ref (He.ga K "WORDS")))) ∧ (PySem.W.nsIn K mainGlobals "SIGNS" = some (some (.ref (He.ga K "SIGNS")))) ∧ (PySem.W.nsIn K mainGlobals "BadText" = some (some (.ref (He.ga K "BadText")))) ∧ (PySem.W.nsIn K mainGlobals "BadTree" = some (some (.ref (He.ga K "BadTree")))) ∧ (PySem.W.nsIn K mainGlobals "BadArgs" = some (some (.ref (He.ga K "BadArgs")))) ∧ (PySem.W.nsIn K mainGlobals "BadHall" = some (some (.ref (He.ga K "BadHall")))) ∧ (PySem.W.nsIn K mainGlobals "BadTurn" = some (some (.ref (He.ga K "BadTurn")))) ∧ (PySem.W.nsIn K mainGlobals "NoRow" = some (some (.ref (He.ga K "NoRow")))))
abbrev fa_19 : HK.Fr → Bool := fun K => decide ((PySem.W.nsIn K mainGlobals "Missing" = some (some (.ref (He.ga K "Missing")))) ∧ (PySem.W.nsIn K mainGlobals "Bare" = some (some (.ref (He.ga K "Bare")))) ∧ (PySem.W.nsIn K mainGlobals "Spent" = some (some (.ref (He.ga K "Spent")))) ∧ (PySem.W.nsIn K mainGlobals "Broken" = some (some (.ref (He.ga K "Broken")))) ∧ (PySem.W.nsIn K mainGlobals "StealError" = some (some (.ref (He.ga K "StealError")))) ∧ (PySem.W.kitOne K (.ref (He.ga K "BadTree")) (.ref (He.ga K "BadText")) = some false) ∧ (PySem.W.kitOne K (.ref (He.ga K "BadTree")) (.ref (He.ga K "BadTree")) = some true) ∧ (PySem.W.kitOne K (.ref (He.ga K "BadTree")) (.ref (He.ga K "BadArgs")) = some false) ∧ (PySem.W.kitOne K (.ref (He.ga K "BadTree")) (.ref (He.ga K "BadHall")) = some false) ∧ (PySem.W.kitOne K (.ref (He.ga K "BadTree")) (.ref (He.ga K "BadTurn")) = some false))
abbrev fa_20 : HK.Fr → Bool := fun K => decide ((PySem.W.kitOne K (.ref (He.ga K "BadTree")) (.ref (He.ga K "NoRow")) = some false) ∧ (PySem.W.kitOne K (.ref (He.ga K "BadTree")) (.ref (He.ga K "Missing")) = some false) ∧ (PySem.W.kitOne K (.ref (He.ga K "BadTree")) (.ref (He.ga K "Bare")) = some false) ∧ (PySem.W.kitOne K (.ref (He.ga K "BadTree")) (.ref (He.ga K "Spent")) = some false) ∧ (PySem.W.kitOne K (.ref (He.ga K "BadTree")) (.ref (He.ga K "Broken")) = some false) ∧ (PySem.W.kitOne K (.ref (He.ga K "BadTree")) (.ref (He.ga K "StealError")) = some true) ∧ (PySem.W.kitOne K (.ref (He.ga K "BadTree")) (.type "ValueError") = some true) ∧ (PySem.W.kitOne K (.ref (He.ga K "BadTree")) (.type "LookupError") = some false) ∧ (PySem.W.kitOne K (.ref (He.ga K "BadTree")) (.type "RuntimeError") = some false) ∧ (PySem.W.kitOne K (.ref (He.ga K "BadTree")) (.type "ArithmeticError") = some false))
abbrev fa_21 : HK.Fr → Bool := fun K => decide ((PySem.W.kitOne K (.ref (He.ga K "BadTree")) (.type "KeyError") = some false) ∧ (PySem.W.kitOne K (.ref (He.ga K "BadTree")) (.type "IndexError") = some false) ∧ (PySem.W.kitOne K (.ref (He.ga K "BadTree")) (.type "ZeroDivisionError") = some false) ∧ (PySem.W.exmOne K (.ref (He.ga K "BadTree")) (.ref (He.ga K "StealError")) = some true) ∧ (PySem.W.excIn K (He.ga K "BadTree") [.type "ValueError", .type "Exception", .type "BaseException", .type "object"] "ValueError.__new__" = true) ∧ (PySem.W.keepIn K (.ref (He.ga K "BadTree")) = true) ∧ (PySem.W.subIn K (.ref (He.ga K "BadTree")) (.type "BaseException") = some true) ∧ (PySem.W.typeIn K (.ref (He.ga K "BadTree")) = some (.type "type")) ∧ (PySem.W.isClsIn K (He.ga K "BadTree") = true) ∧ (PySem.W.findIn K (.ref (He.ga K "BadTree")) "__getattribute__" = some (some (.builtin "BaseException.__getattribute__"))))
abbrev fa_22 : HK.Fr → Bool := fun K => decide ((PySem.W.findIn K (.ref (He.ga K "BadTree")) "__getattr__" = some none) ∧ (PySem.W.findIn K (.ref (He.ga K "BadTree")) "__class__" = some (some (.builtin "object.__class__"))) ∧ (PySem.W.mroIn K (He.ga K "BadTree") (.type "object") = some true) ∧ (PySem.W.specialIn K (.builtin "object.__class__") "__get__" = some (some (.builtin "getset_descriptor.__get__"))) ∧ (PySem.W.takesIn K (.builtin "object.__class__") = some true))
def faL0 : List (HK.Fr → Bool) := [fa_0, fa_1, fa_2, fa_3, fa_4, fa_5, fa_6, fa_7, fa_8, fa_9, fa_10, fa_11, fa_12, fa_13, fa_14, fa_15, fa_16, fa_17, fa_18, fa_19, fa_20, fa_21, fa_22]
def faL : List (HK.Fr → Bool) := faL0
def fnL0 : List HK.FD := [⟨("check_work", none), "check_work", "check_work", (topS 25), .plain⟩, ⟨("is_work", none), "is_work", "is_work", (topS 26), .plain⟩, ⟨("is_tuple_of", none), "is_tuple_of", "is_tuple_of", (topS 27), .plain⟩, ⟨("is_whole", none), "is_whole", "is_whole", (topS 28), .plain⟩, ⟨("is_whole_within", none), "is_whole_within", "is_whole_within", (topS 29), .plain⟩, ⟨("is_name", none), "is_name", "is_name", (topS 30), .plain⟩, ⟨("are_names", none), "are_names", "are_names", (topS 31), .plain⟩, ⟨("is_expression", none), "is_expression", "is_expression", (topS 32), .dfl⟩, ⟨("is_leaf", none), "is_leaf", "is_leaf", (topS 33), .plain⟩, ⟨("are_expressions", none), "are_expressions", "are_expressions", (topS 34), .plain⟩, ⟨("rows_left", none), "rows_left", "rows_left", (topS 35), .plain⟩, ⟨("row_left", none), "row_left", "row_left", (topS 36), .plain⟩, ⟨("branches_left", none), "branches_left", "branches_left", (topS 37), .plain⟩, ⟨("is_if_head", none), "is_if_head", "is_if_head", (topS 38), .plain⟩, ⟨("is_plain_row", none), "is_plain_row", "is_plain_row", (topS 39), .plain⟩, ⟨("_law_bag", none), "_law_bag", "_law_bag", (topS 41), .plain⟩, ⟨("_law_take", none), "_law_take", "_law_take", (topS 42), .plain⟩, ⟨("_law_kept", none), "_law_kept", "_law_kept", (topS 43), .plain⟩, ⟨("_law_names", none), "_law_names", "_law_names", (topS 44), .plain⟩, ⟨("_law_number", none), "_law_number", "_law_number", (topS 45), .plain⟩, ⟨("_law_tree", none), "_law_tree", "_law_tree", (topS 46), .plain⟩, ⟨("_law_row", none), "_law_row", "_law_row", (topS 47), .plain⟩, ⟨("_law_rows", none), "_law_rows", "_law_rows", (topS 48), .plain⟩, ⟨("_law_works", none), "_law_works", "_law_works", (topS 49), .plain⟩, ⟨("_law_any", none), "_law_any", "_law_any", (topS 50), .plain⟩]
def fnL1 : List HK.FD := [⟨("_law_spoilt", none), "_law_spoilt", "_law_spoilt", (topS 51), .plain⟩, ⟨("_law_whole", none), "_law_whole", "_law_whole", (topS 52), .plain⟩, ⟨("_law_is_name", none), "_law_is_name", "_law_is_name", (topS 53), .plain⟩, ⟨("_law_deep", none), "_law_deep", "_law_deep", (topS 54), .plain⟩, ⟨("_law_is_list", none), "_law_is_list", "_law_is_list", (topS 55), .plain⟩, ⟨("_law_is_tree", none), "_law_is_tree", "_law_is_tree", (topS 56), .plain⟩, ⟨("_law_count", none), "_law_count", "_law_count", (topS 57), .plain⟩, ⟨("_law_row_count", none), "_law_row_count", "_law_row_count", (topS 58), .plain⟩, ⟨("_law_is_work", none), "_law_is_work", "_law_is_work", (topS 59), .plain⟩, ⟨("_law_refusal", none), "_law_refusal", "_law_refusal", (topS 60), .plain⟩, ⟨("_law_said", none), "_law_said", "_law_said", (topS 61), .plain⟩, ⟨("_law_twin", none), "_law_twin", "_law_twin", (topS 62), .plain⟩, ⟨("_law_deeper", none), "_law_deeper", "_law_deeper", (topS 63), .plain⟩, ⟨("_law_edges", none), "_law_edges", "_law_edges", (topS 64), .plain⟩, ⟨("law", none), "law", "law", (topS 65), .plain⟩]
def fnL : List HK.FD := fnL0 ++ fnL1
def nmLx0 : List PySem.Str := ["StealError", "BadText", "BadTree", "BadArgs", "BadHall", "BadTurn", "NoRow", "Missing", "Bare", "Spent", "Broken", "MOST_ROWS", "MOST_NAMES", "MOST_EXPRESSIONS", "MOST_IFS", "MOST_DEPTH", "MOST_LETTERS", "MOST_ROOM", "MOST_NUMBER", "LETTERS", "WORDS", "SIGNS", "NO_ROWS", "check_work", "is_work"]
def nmLx1 : List PySem.Str := ["is_tuple_of", "is_whole", "is_whole_within", "is_name", "are_names", "is_expression", "is_leaf", "are_expressions", "rows_left", "row_left", "branches_left", "is_if_head", "is_plain_row", "_law_bag", "_law_take", "_law_kept", "_law_names", "_law_number", "_law_tree", "_law_row", "_law_rows", "_law_works", "_law_any", "_law_spoilt", "_law_whole"]
def nmLx2 : List PySem.Str := ["_law_is_name", "_law_deep", "_law_is_list", "_law_is_tree", "_law_count", "_law_row_count", "_law_is_work", "_law_refusal", "_law_said", "_law_twin", "_law_deeper", "_law_edges"]
def nmLx : List PySem.Str := nmLx0 ++ nmLx1 ++ nmLx2
abbrev RR : PySem.W.OpenRow := PySem.W.OpenLaw.row PySem.Challenge.rw_stealhall_k01_works_of_any_thing
abbrev qV : Program := PySem.W.view RR.prog [65]
abbrev hK : PySem.W.Hook := HK.hook 4 faL fnL
def oB (s : PySem.W.SharedT) : HK.Al := HK.obsG 4 faL fnL (HandSHeadRun.getT s)
theorem oB_eq (s : PySem.W.SharedT) : oB s = hK.obs s.abs := HK.obsG_eq (HandSHeadRun.getT_eq s)
set_option maxHeartbeats 0
theorem run0 (w : World) : HandSHeadRun.RunEq RR qV hK oB 20000 nmLx (w.withFollow "special-get-raises" false) := by
  intro os
  kernel_rfl
theorem run1 (w : World) : HandSHeadRun.RunEq RR qV hK oB 20000 nmLx (w.withFollow "special-get-raises" true) := by
  intro os
  kernel_rfl
theorem runA (w : World) : HandSHeadRun.RunEq RR qV hK oB 20000 nmLx w := PySem.W.byRow2 "special-get-raises" (P := fun w => HandSHeadRun.RunEq RR qV hK oB 20000 nmLx w) run0 run1 w
end SH

set_option Elab.async false
set_option linter.all false
set_option maxRecDepth 100000
/-! Expressions: what they are, their text, how they lie in the heap. -/
namespace SH
open PySem L2
inductive Sg where
  | add | sub | mul | lt | eq
def Sg.txt : Sg → Str
  | .add => "+"
  | .sub => "-"
  | .mul => "*"
  | .lt => "<"
  | .eq => "=="
def Sg.lv : Sg → Int
  | .add => 2
  | .sub => 2
  | .mul => 3
  | .lt => 1
  | .eq => 1
inductive Ex where
  | num (n : Int)
  | nam (s : Str)
  | op (g : Sg) (l r : Ex)
def Ex.lv : Ex → Int
  | .num _ => 4
  | .nam _ => 4
  | .op g _ _ => g.lv
def Ex.lw : Ex → Int
  | .num _ => 9
  | .nam _ => 9
  | .op g _ _ => g.lv
def br (b : Bool) (t : Str) : Str := if b = true then ("(" : Str) ++ t ++ (")" : Str) else t
def lB (g : Sg) (l : Ex) : Bool := decide (l.lv < g.lv) || decide (l.lv = 1)
def rB (g : Sg) (r : Ex) : Bool := decide (r.lv ≤ g.lv)
def Ex.txt : Ex → Str
  | .num n => (toString n : String)
  | .nam s => s
  | .op g l r => br (lB g l) l.txt ++ (" " : Str) ++ g.txt ++ (" " : Str) ++ br (rB g r) r.txt
/-- at most n deep, its parts within bounds -/
def Ex.ok : Nat → Ex → Prop
  | 0, _ => False
  | _ + 1, .num n => n.natAbs.log2 < 1920
  | _ + 1, .nam s => s.length ≤ 2000
  | n + 1, .op _ l r => Ex.ok n l ∧ Ex.ok n r
def lenB : Nat → Nat
  | 0 => 2000
  | n + 1 => 2 * lenB n + 2000
theorem app_len (a b : Str) : (a ++ b).length = a.length + b.length := by
  show (a.cps ++ b.cps).size = _
  rw [Array.size_append]
  all_goals rfl
theorem emp_app (a : Str) : Str.empty ++ a = a := by
  show (⟨#[] ++ a.cps⟩ : Str) = a
  rw [Array.empty_append]
theorem Sg.len (g : Sg) : g.txt.length ≤ 2 := by cases g <;> decide +kernel
theorem br_len (b : Bool) (t : Str) : (br b t).length ≤ t.length + 2 := by
  unfold br
  split
  · rw [app_len, app_len]
    have h1 : ("(" : Str).length = 1 := by decide +kernel
    have h2 : (")" : Str).length = 1 := by decide +kernel
    omega
  · omega
theorem Ex.len : ∀ (n : Nat) (e : Ex), Ex.ok n e → e.txt.length ≤ lenB n
  | 0, _, h => h.elim
  | n + 1, .num i, h => by
    have q := PyProof.Rows.int_text_len_1921 (i := i) h
    show (PySem.Str.ofString (toString i)).length ≤ 2 * lenB n + 2000
    omega
  | n + 1, .nam s, h => by
    show s.length ≤ 2 * lenB n + 2000
    have : s.length ≤ 2000 := h
    omega
  | n + 1, .op g l r, h => by
    have h1 := Ex.len n l h.1
    have h2 := Ex.len n r h.2
    have q1 := br_len (lB g l) l.txt
    have q2 := br_len (rB g r) r.txt
    have q3 := g.len
    have hb : (" " : Str).length = 1 := by decide +kernel
    show (br (lB g l) l.txt ++ (" " : Str) ++ g.txt ++ (" " : Str) ++ br (rB g r) r.txt).length ≤ 2 * lenB n + 2000
    rw [app_len, app_len, app_len, app_len]
    omega
theorem Ex.ok_up : ∀ {n m : Nat} {e : Ex}, n ≤ m → Ex.ok n e → Ex.ok m e
  | 0, _, _, _, h => h.elim
  | n + 1, m + 1, .num _, _, h => h
  | n + 1, m + 1, .nam _, _, h => h
  | n + 1, m + 1, .op _ _ _, hm, h => ⟨Ex.ok_up (by omega) h.1, Ex.ok_up (by omega) h.2⟩
/-- what lies at v is the expression -/
def TrIn (H : Hp) : Ex → V → Prop
  | .num n, v => ∃ a, v = .ref a ∧ H a = some (.tup [.str "number", .int n])
  | .nam s, v => ∃ a, v = .ref a ∧ H a = some (.tup [.str "name", .str s])
  | .op g l r, v => ∃ a x y, v = .ref a ∧ H a = some (.tup [.str g.txt, x, y]) ∧ TrIn H l x ∧ TrIn H r y
/-- all but what stands at b stays -/
def But (b : Addr) (H H' : Hp) : Prop := ∀ a o, a ≠ b → H a = some o → H' a = some o
theorem But.of {b : Addr} {H H' : Hp} (h : Same H H') : But b H H' := fun a o _ e => h a o e
theorem But.trans {b : Addr} {H H1 H2 : Hp} (h : But b H H1) (k : But b H1 H2) : But b H H2 := fun a o n e => k a o n (h a o n e)
theorem TrIn.same {H H' : Hp} (h : Same H H') : ∀ {e : Ex} {v : V}, TrIn H e v → TrIn H' e v
  | .num n, v, ⟨a, e, k⟩ => ⟨a, e, h _ _ k⟩
  | .nam n, v, ⟨a, e, k⟩ => ⟨a, e, h _ _ k⟩
  | .op g l r, v, ⟨a, x, y, e, k, p, q⟩ => ⟨a, x, y, e, h _ _ k, TrIn.same h p, TrIn.same h q⟩
theorem lst_ne {H : Hp} {a b : Addr} {xs ys : List V} (h : H a = some (.tup xs)) (k : H b = some (.lst ys)) : a ≠ b := fun e => by
  rw [e, k] at h
  cases h
theorem TrIn.but {H H' : Hp} {b : Addr} {ys : List V} (hb : H b = some (.lst ys)) (h : But b H H') : ∀ {e : Ex} {v : V}, TrIn H e v → TrIn H' e v
  | .num n, v, ⟨a, e, k⟩ => ⟨a, e, h _ _ (lst_ne k hb) k⟩
  | .nam n, v, ⟨a, e, k⟩ => ⟨a, e, h _ _ (lst_ne k hb) k⟩
  | .op g l r, v, ⟨a, x, y, e, k, p, q⟩ => ⟨a, x, y, e, h _ _ (lst_ne k hb) k, TrIn.but hb h p, TrIn.but hb h q⟩
theorem same_new {H : Hp} {p : Addr} (h : H p = none) (o : HO) : Same H (upd H p o) := fun b u q => by
  rw [upd_ne (ne_of_none q h)]
  exact q
def Ex.head : Ex → Str
  | .num _ => "number"
  | .nam _ => "name"
  | .op g _ _ => g.txt
theorem TrIn.tup {H : Hp} : ∀ {e : Ex} {v : V}, TrIn H e v → ∃ a xs, v = .ref a ∧ H a = some (.tup xs) ∧ xs[0]? = some (.str e.head)
  | .num n, v, ⟨a, e, k⟩ => ⟨a, _, e, k, rfl⟩
  | .nam n, v, ⟨a, e, k⟩ => ⟨a, _, e, k, rfl⟩
  | .op g l r, v, ⟨a, x, y, e, k, p, q⟩ => ⟨a, _, e, k, rfl⟩
theorem Sg.ne_number (g : Sg) : g.txt ≠ ("number" : Str) := by cases g <;> decide +kernel
theorem Sg.ne_name (g : Sg) : g.txt ≠ ("name" : Str) := by cases g <;> decide +kernel
/-! ### d.get(k, x) of a dict of the module, keys texts -/
section
variable {X : Cx} {o e f : Expr} {apos cpos : Pos} {td ty tx : TE}
def KGet (K : PySem.W.Frag) (w : World) (a : Addr) (x : Str) (r : Option V) : Prop :=
  ∃ es n ou, K.lookup a = some ⟨.type "dict", none, .dict es n, #[]⟩ ∧ PySem.W.KeysLit w.params es.toList ∧ (a == sysModules) = false ∧ PySem.W.nsIn K a x = some ou ∧
    ((∃ v u, r = some v ∧ ou = some u ∧ RelV v u) ∨ (r = none ∧ ou = none))
def tKGet2 (K : PySem.W.Frag) (w : World) (td ty tx : TE) : TE := fun σ H Q => td σ H fun x H1 => ∃ a es n, x = .ref a ∧ K.lookup a = some ⟨.type "dict", none, .dict es n, #[]⟩ ∧ PySem.W.KeysLit w.params es.toList ∧
  ty σ H1 fun y H2 => tx σ H2 fun z H3 => ∃ k r, y = .str k ∧ KGet K w a k r ∧ Q (r.getD z) H3
theorem pe_kget2 (ho : PE X o td) (he : PE X e ty) (hf : PE X f tx) (m : M2 X o "get" apos e f cpos) : PE X (.Call (.Attribute o "get" apos) [e, f] [] cpos) (tKGet2 X.K X.w td ty tx) := by
  refine ⟨fun pins s σ H Q I h => ?_⟩
  refine wpAny_Call_method m.base m.few m.line PySem.F.plainAttrs_dict PySem.F.slot_dict_get PySem.F.type_dict_get (thn (ho.run pins s σ H _ I h) fun u s1 ⟨x, H1, I1, rx, a, es, n, ex, hl, hk, q1⟩ => ?_)
  subst ex
  obtain rfl : u = Value.ref a := rx
  have hm := PySem.W.mapOf_K (prog := X.prog) (w := X.w) I1.kIn hl hk
  refine ⟨hm.typeIs, fun b q => ?_, ?_⟩
  · cases q
    exact ⟨_, I1.kIn _ _ hl, rfl⟩
  rw [m.trees]
  refine Calls.callWith_builtin rfl (Calls.evalArgs_plain (Calls.spliced_cons (thn (he.run pins s1 σ H1 _ I1 q1) fun iv s2 ⟨y, H2, I2, ry, q2⟩ =>
    Calls.spliced_cons (thn (hf.run pins s2 σ H2 _ I2 q2) fun fv s3 ⟨z, H3, I3, rz, k, r, ey, g, q3⟩ => Calls.spliced_nil ?_))))
  subst ey
  obtain ⟨t, rfl⟩ := (show ∃ t, iv = Value.str k t from ry)
  obtain ⟨es', n', ou, hl', hk', low, hn, hr⟩ := g
  have hm3 := PySem.W.mapOf_K (prog := X.prog) (w := X.w) I3.kIn hl' hk'
  refine call_meetsIn PySem.F.slot_dict_get hm3.typeIs PySem.F.entry_dict_get (PySem.F.args_dict_get_3 _ _ _) (meets_dict_get_default (strKind X.prog X.w) a (strKind_is X.prog X.w k t) low fv) ⟨_, hm3, ?_⟩
  rw [PySem.W.find_K hl' hn]
  rcases hr with ⟨v, u, rfl, rfl, rv⟩ | ⟨rfl, rfl⟩
  · exact ⟨v, H3, I3.tok _, rv, q3⟩
  · exact ⟨z, H3, I3.tok _, rz, q3⟩
end
/-! ### rules within a comprehension: the written part by its name -/
section
variable {X : Cx}
theorem ix_tupK (K : PySem.W.Frag) (h : X.K = K := by rfl) : IxR X (rIxT K) := h ▸ ix_tup
theorem ix_listK (K : PySem.W.Frag) (h : X.K = K := by rfl) : IxR X (rIxL K) := h ▸ ix_list
theorem call_len_seqK (K : PySem.W.Frag) (h : X.K = K := by rfl) : CallR X (.builtin "len") (fun xs H Q => ∃ p ys, xs = [V.ref p] ∧ (SqL K H p ys ∨ SqT K H p ys) ∧ Q (.int (ys.length : Nat)) H) := h ▸ call_len_seq
theorem op_in_seqK (K : PySem.W.Frag) (h : X.K = K := by rfl) : OpR X (compareOp .In) (rIn K false) := h ▸ op_in_seq
theorem op_notIn_seqK (K : PySem.W.Frag) (h : X.K = K := by rfl) : OpR X (compareOp .NotIn) (rIn K true) := h ▸ op_notIn_seq
end
end SH


set_option Elab.async false
set_option linter.all false
set_option maxRecDepth 100000
namespace SH
open PySem L2
abbrev sBag : Stmt := topS 41
abbrev sTake : Stmt := topS 42
theorem scBag : FnScope ["_law_script", "_law_k", "_law_cell"] ["_law_script", "_law_k"] (defScope sBag) := ⟨rfl, rfl, rfl, by decide +kernel, rfl, by decide +kernel, by decide +kernel⟩
theorem scTake : FnScope ["_law_bag_here", "_law_many", "_law_digit", "_law_primes", "_law_step", "_law_base", "_law_found", "_law_prime"] ["_law_bag_here", "_law_many"] (defScope sTake) := ⟨rfl, rfl, rfl, by decide +kernel, rfl, by decide +kernel, by decide +kernel⟩
/-- the names of the built-ins are free -/
structure Bi (mg : Str → Option Value) : Prop where
  len : mg "len" = none
  abs : mg "abs" = none
  int : mg "int" = none
  str : mg "str" = none
  range : mg "range" = none
  max : mg "max" = none
  min : mg "min" = none
  isinstance : mg "isinstance" = none
  all : mg "all" = none
/-- a def that can be called -/
structure Fk (P : Program) (w : World) (K : PySem.W.Frag) (mg : Str → Option Value) (base : Heap) (lv : Nat) (x : Str) (f : Addr) (fd : FuncData) (ps : List Str) (sp : Sp) : Prop where
  G : FnOk P w K mg base CX0 lv f fd ps sp
  m : mg x = some (.ref f)
  k : PySem.W.keepIn K (.ref f) = true
  b : Binds K fd ps []
/-- a bag from which n can be taken -/
def Bag (H : Hp) (b : Addr) (n : Nat) : Prop := ∃ x y z : Int, H b = some (.lst [.int x, .int y, .int z]) ∧ 0 ≤ x ∧ 0 ≤ y ∧ y ≤ 4294967296 ∧ 0 ≤ z ∧ z + n ≤ 16777216
theorem Bag.less {H : Hp} {b : Addr} {n m : Nat} (h : Bag H b n) (hm : m ≤ n) : Bag H b m := by
  obtain ⟨x, y, z, e, h1, h2, h3, h4, h5⟩ := h
  exact ⟨x, y, z, e, h1, h2, h3, h4, by omega⟩
theorem Bag.same {H H' : Hp} {b : Addr} {n : Nat} (h : Bag H b n) (s : Same H H') : Bag H' b n := by
  obtain ⟨x, y, z, e, r⟩ := h
  exact ⟨x, y, z, s _ _ e, r⟩
theorem Bag.lst {H : Hp} {b : Addr} {n : Nat} (h : Bag H b n) : ∃ ys, H b = some (.lst ys) := by
  obtain ⟨x, y, z, e, _⟩ := h
  exact ⟨_, e⟩
def spBag (K : PySem.W.Frag) : Sp := fun vs H Q _ => ∃ (a : Addr) (ns : List Int) (k : Int), vs = [.ref a, .int k] ∧ SqL K H a (ns.map V.int) ∧ 0 ≤ k ∧ k ≤ 63 ∧
  ∀ b H', Same H H' → H b = none → Bag H' b 16000000 → Q (.ref b) H'
def spTake : Sp := fun vs H Q _ => ∃ (b : Addr) (m : Int) (n : Nat), vs = [.ref b, .int m] ∧ 0 < m ∧ m < 1073741824 ∧ Bag H b (n + 1) ∧
  ∀ (d : Int) (H' : Hp), 0 ≤ d → d < m → Bag H' b n → But b H H' → Q (.int d) H'
theorem bit01 (b : Bool) : -(2 ^ 64) < (if b = true then (1 : Int) else 0) ∧ (if b = true then (1 : Int) else 0) < 2 ^ 64 := by cases b <;> decide
theorem bit0 (b : Bool) : 0 ≤ (if b = true then (1 : Int) else 0) := by cases b <;> decide
section
variable {P : Program} {w : World} {K : PySem.W.Frag} {mg : Str → Option Value} {base : Heap}
theorem ok_bag {f : Addr} {fd : FuncData} (F : Fun K "_law_bag" "_law_bag" sBag f fd) (T : Bi mg) : FnOk P w K mg base CX0 1 f fd ["_law_script", "_law_k"] (spBag K) := by
  refine F.ok scBag (fun vs H Q E h => ?_) (fun cdv A outer s H vs Q E hr h => ?_)
  · obtain ⟨a, ns, k, rfl, _⟩ := h
    rfl
  obtain ⟨a, ns, k, rfl, hS, h0, h1, q⟩ := h
  refine ⟨_, (pss_cons (ps_set (i := 2) scBag.nd rfl (Or.inl rfl) (pe_op op_add (pe_op op_mul pe_int (pv 1)) pe_int))
    (C8.pss_cut (ps_if (pt_cmpR op_lt (pv 1) (pe_callB call_len_seq (by rfl) T.len (by decide +kernel) (pa_cons (pv 0) pa_nil)) (nomark _))
      (pss_one (ps_set (i := 2) scBag.nd rfl (Or.inl rfl) (pe_ix ix_list (pv 0) (pv 1) (fun _ _ => rfl))))
      pss_nil)
    (pss_one (ps_ret (pe_lst (pa_cons (pe_op op_mul (pe_callB call_abs (by rfl) T.abs (by decide +kernel) (pa_cons (pv 2) pa_nil)) (pe_callTy call_int1 (by rfl) T.int (by decide +kernel) (pa_cons (pe_cmpR op_ge (pe_callB call_abs (by rfl) T.abs (by decide +kernel) (pa_cons (pv 2) pa_nil)) (pe_op op_pow pe_int pe_int) (nomark _)) pa_nil))) (pa_cons (pe_op op_add (pe_op op_mod (pv 2) pe_int) (pe_op op_mul pe_int (pv 1))) (pa_cons pe_int pa_nil)))))))), ?_⟩
  have hl : (ns.map V.int).length = ns.length := List.length_map _
  refine ⟨_, rfl, _, _, rfl, rfl, .inl ⟨by decide, by decide⟩, _, _, rfl, rfl, ?_⟩
  refine ⟨fun σ' H' => ∃ c : Int, σ' = [some (.ref a), some (.int k), some (.int c)] ∧ H' = H, ?_, ?_⟩
  · refine ⟨_, rfl, _, rfl, a, _, rfl, .inl hS, _, _, rfl, rfl, _, rfl, ?_⟩
    refine ite2 (fun c => ?_) (fun c => ?_)
    · have c' := of_decide_eq_true c
      rw [hl] at c'
      have hk : k.toNat < ns.length := by omega
      refine ⟨_, rfl, _, rfl, a, _, k, .int ns[k.toNat], rfl, rfl, hS, ?_, ?_⟩
      · have q : atI (ns.map V.int) ((k.toNat : Nat) : Int) = some (.int ns[k.toNat]) := atI_nat (by rw [List.getElem?_map, List.getElem?_eq_getElem hk] <;> rfl)
        rwa [show ((k.toNat : Nat) : Int) = k by omega] at q
      · exact ⟨_, rfl, rfl⟩
    · exact ⟨_, rfl, rfl⟩
  · rintro σ' H' ⟨c, rfl, rfl⟩
    refine ⟨_, rfl, _, rfl, _, rfl, _, rfl, _, _, rfl, rfl, ⟨by decide, by decide, by decide⟩, _, _, rfl, rfl, .inr ⟨_, rfl, ?_⟩⟩
    refine ⟨_, _, rfl, rfl, .inr ?_, ?_⟩
    · exact bit01 _
    refine ⟨_, rfl, _, _, rfl, rfl, (by show (0 : Int) < 2147483647; decide), _, rfl, _, _, rfl, rfl, .inl ⟨by decide, by decide⟩, _, _, rfl, rfl, ?_⟩
    refine ⟨by show 3 ≤ sizeLine; decide, fun b hb => ?_⟩
    refine q b _ (same_new hb _) hb ⟨_, _, _, upd_same, ?_, ?_, ?_, Int.le_refl 0, by decide⟩
    · show 0 ≤ (if c < 0 then -c else c) * (if decide ((10 : Int) ^ 18 ≤ (if c < 0 then -c else c)) = true then (1 : Int) else 0)
      refine Int.mul_nonneg ?_ ?_
      · split <;> omega
      · exact bit0 _
    · have := Int.emod_nonneg c (show (2147483647 : Int) ≠ 0 by decide)
      show 0 ≤ c % 2147483647 + 37 * k
      omega
    · have := Int.emod_lt_of_pos c (show (0 : Int) < 2147483647 by decide)
      show c % 2147483647 + 37 * k ≤ 4294967296
      omega
theorem pow3 {a : Int} (h0 : 0 ≤ a) (h : a < 4611686018427387904) : CPow a 3 := ⟨by decide, by decide, by omega⟩
def primes : List Int := [2147483647, 2147483629, 2147483587, 2147483579, 2147483563, 2147483549, 2147483543, 2147483497, 2147483489, 2147483477, 2147483423, 2147483399]
theorem primes_at {z : Int} : ∃ p : Int, atI (primes.map V.int) (z % 12) = some (.int p) ∧ 0 < p ∧ p < 2147483648 := by
  have h0 := Int.emod_nonneg z (show (12 : Int) ≠ 0 by decide)
  have h1 := Int.emod_lt_of_pos z (show (0 : Int) < 12 by decide)
  have hk : (z % 12).toNat < primes.length := by show (z % 12).toNat < 12; omega
  have q : atI (primes.map V.int) (((z % 12).toNat : Nat) : Int) = some (.int primes[(z % 12).toNat]) := atI_nat (by rw [List.getElem?_map, List.getElem?_eq_getElem hk] <;> rfl)
  rw [show (((z % 12).toNat : Nat) : Int) = z % 12 by omega] at q
  have all : ∀ p ∈ primes, 0 < p ∧ p < 2147483648 := by decide
  exact ⟨_, q, all _ (List.getElem_mem hk)⟩
theorem base_le {y z : Int} (h2 : 0 ≤ y) (h3 : y ≤ 4294967296) (h4 : 0 ≤ z) (h5 : z ≤ 16777217) : 0 ≤ y * (2 * z + 1) + 7919 * z * z + 29 ∧ y * (2 * z + 1) + 7919 * z * z + 29 < 4611686018427387904 := by
  have a1 : y * (2 * z + 1) ≤ 4294967296 * 67108864 := Int.mul_le_mul h3 (by omega) (by omega) (by omega)
  have a2 : 0 ≤ y * (2 * z + 1) := Int.mul_nonneg h2 (by omega)
  have b1 : 7919 * z * z ≤ 132858781423 * 16777217 := Int.mul_le_mul (by omega) h5 h4 (by omega)
  have b2 : 0 ≤ 7919 * z * z := Int.mul_nonneg (by omega) h4
  omega
theorem ok_take {f : Addr} {fd : FuncData} (F : Fun K "_law_take" "_law_take" sTake f fd) : FnOk P w K mg base CX0 1 f fd ["_law_bag_here", "_law_many"] spTake := by
  refine F.ok scTake (fun vs H Q E h => ?_) (fun cdv A outer s H vs Q E hr h => ?_)
  · obtain ⟨b, m, n, rfl, _⟩ := h
    rfl
  obtain ⟨b, m, n, rfl, hm0, hm1, ⟨x, y, z, hb, hx, hy, hy1, hz, hz1⟩, q⟩ := h
  refine ⟨_, (pss_cons (ps_if (pt_cmpR op_gt (pe_ix ix_list (pv 0) pe_int (fun _ _ => rfl)) pe_int (nomark _))
      (pss_cons (ps_set (i := 2) scTake.nd rfl (Or.inl rfl) (pe_op op_mod (pe_ix ix_list (pv 0) pe_int (fun _ _ => rfl)) (pv 1)))
    (pss_cons (ps_asg (pe_op op_fdiv (pe_ix ix_list (pv 0) pe_int (fun _ _ => rfl)) (pv 1)) (pg_sub (pv 0) pe_int set_list))
    (pss_one (ps_ret (pv 2)))))
      pss_nil)
    (pss_cons (ps_set (i := 3) scTake.nd rfl (Or.inl rfl) (pe_tup (pa_cons pe_int (pa_cons pe_int (pa_cons pe_int (pa_cons pe_int (pa_cons pe_int (pa_cons pe_int (pa_cons pe_int (pa_cons pe_int (pa_cons pe_int (pa_cons pe_int (pa_cons pe_int (pa_cons pe_int pa_nil))))))))))))))
    (pss_cons (ps_asg (pe_op op_add (pe_ix ix_list (pv 0) pe_int (fun _ _ => rfl)) pe_int) (pg_sub (pv 0) pe_int set_list))
    (pss_cons (ps_set (i := 4) scTake.nd rfl (Or.inl rfl) (pe_ix ix_list (pv 0) pe_int (fun _ _ => rfl)))
    (pss_cons (ps_set (i := 5) scTake.nd rfl (Or.inl rfl) (pe_op op_add (pe_op op_add (pe_op op_mul (pe_ix ix_list (pv 0) pe_int (fun _ _ => rfl)) (pe_op op_add (pe_op op_mul pe_int (pv 4)) pe_int)) (pe_op op_mul (pe_op op_mul pe_int (pv 4)) (pv 4))) pe_int))
    (pss_cons (ps_set (i := 6) scTake.nd rfl (Or.inl rfl) (pe_op op_mod (pe_op op_pow (pv 5) pe_int) (pe_ix ix_tup (pv 3) (pe_op op_mod (pv 4) pe_int) (fun _ _ => rfl))))
    (pss_cons (ps_set (i := 7) scTake.nd rfl (Or.inl rfl) (pe_ix ix_tup (pv 3) (pe_op op_mod (pe_op op_add (pv 4) pe_int) pe_int) (fun _ _ => rfl)))
    (pss_one (ps_ret (pe_op op_mod (pe_op op_fdiv (pe_op op_mod (pe_op op_mul (pv 6) (pe_op op_add (pe_op op_fdiv (pv 6) pe_int) pe_int)) (pv 7)) pe_int) (pv 1))))))))))), ?_⟩
  have i0 : ∀ {u v t : V}, atI [u, v, t] 0 = some u := fun {u v t} => atI_nat (j := 0) rfl
  have i1 : ∀ {u v t : V}, atI [u, v, t] 1 = some v := fun {u v t} => atI_nat (j := 1) rfl
  have i2 : ∀ {u v t : V}, atI [u, v, t] 2 = some t := fun {u v t} => atI_nat (j := 2) rfl
  refine ⟨_, rfl, b, _, 0, _, rfl, rfl, SqL.of hb, i0, _, _, rfl, rfl, _, rfl, ?_⟩
  refine ite2 (fun c => ?_) (fun c => ?_)
  · refine ⟨_, rfl, b, _, 0, _, rfl, rfl, SqL.of hb, i0, _, rfl, _, _, rfl, rfl, hm0, ?_⟩
    refine ⟨_, rfl, b, _, 0, _, rfl, rfl, SqL.of hb, i0, _, rfl, _, _, rfl, rfl, ⟨hm0, hm1⟩, ?_⟩
    refine ⟨_, rfl, b, _, 0, 0, rfl, rfl, hb, rfl, ?_⟩
    refine ⟨_, rfl, ?_⟩
    refine q _ _ (Int.emod_nonneg x (by omega)) (Int.emod_lt_of_pos x hm0) ⟨_, y, z, upd_same, Int.ediv_nonneg hx (by omega), hy, hy1, hz, by omega⟩ fun a o na e => ?_
    rw [upd_ne na]
    exact e
  · refine ⟨by show 12 ≤ sizeLine; decide, fun t ht => ?_⟩
    have nt : b ≠ t := ne_of_none hb ht
    have hb1 : (upd H t (.tup (primes.map V.int))) b = some (.lst [.int x, .int y, .int z]) := by rw [upd_ne nt]; exact hb
    refine ⟨_, rfl, b, _, 2, _, rfl, rfl, SqL.of hb1, i2, _, _, rfl, rfl, ?_⟩
    refine ⟨_, rfl, b, _, 2, 2, rfl, rfl, hb1, rfl, ?_⟩
    have hb2 : (upd (upd H t (.tup (primes.map V.int))) b (.lst [.int x, .int y, .int (z + 1)])) b = some (.lst [.int x, .int y, .int (z + 1)]) := upd_same
    have ht2 : (upd (upd H t (.tup (primes.map V.int))) b (.lst [.int x, .int y, .int (z + 1)])) t = some (.tup (primes.map V.int)) := by rw [upd_ne (Ne.symm nt), upd_same]
    refine ⟨_, rfl, b, _, 2, _, rfl, rfl, SqL.of hb2, i2, ?_⟩
    obtain ⟨c0, c1⟩ := base_le (y := y) (z := z + 1) hy hy1 (by omega) (by omega)
    refine ⟨_, rfl, b, _, 1, _, rfl, rfl, SqL.of hb2, i1, _, rfl, _, _, rfl, rfl, .inl ⟨by decide, by decide⟩, _, _, rfl, rfl, _, _, rfl, rfl, .inl ⟨by omega, by omega⟩, ?_⟩
    refine ⟨_, rfl, _, _, rfl, rfl, .inl ⟨by decide, by decide⟩, _, rfl, _, _, rfl, rfl, .inl ⟨by omega, by omega⟩, _, _, rfl, rfl, _, _, rfl, rfl, ?_⟩
    obtain ⟨p1, e1, p1a, p1b⟩ := primes_at (z := z + 1)
    obtain ⟨p2, e2, p2a, p2b⟩ := primes_at (z := z + 1 + 5)
    refine ⟨_, rfl, _, _, rfl, rfl, pow3 c0 c1, _, rfl, _, rfl, _, _, rfl, rfl, (by show (0 : Int) < 12; decide), t, _, _, _, rfl, rfl, SqT.of ht2, e1, _, _, rfl, rfl, p1a, ?_⟩
    refine ⟨_, rfl, _, rfl, _, _, rfl, rfl, _, _, rfl, rfl, (by show (0 : Int) < 12; decide), t, _, _, _, rfl, rfl, SqT.of ht2, e2, ?_⟩
    have f0 := Int.emod_nonneg ((y * (2 * (z + 1) + 1) + 7919 * (z + 1) * (z + 1) + 29) ^ 3) (show p1 ≠ 0 by omega)
    have f1 := Int.emod_lt_of_pos ((y * (2 * (z + 1) + 1) + 7919 * (z + 1) * (z + 1) + 29) ^ 3) p1a
    refine ⟨_, rfl, _, rfl, _, _, rfl, rfl, ⟨by decide, by decide⟩, _, _, rfl, rfl, _, _, rfl, rfl, .inl ⟨Int.lt_of_lt_of_le (by decide) f0, Int.lt_trans f1 (by omega)⟩, _, rfl, _, _, rfl, rfl, p2a, _, _, rfl, rfl, ⟨by decide, by decide⟩, _, rfl, _, _, rfl, rfl, hm0, ?_⟩
    refine q _ _ (Int.emod_nonneg _ (by omega)) (Int.emod_lt_of_pos _ hm0) ⟨x, y, z + 1, hb2, hx, hy, hy1, by omega, by omega⟩ fun a o na e => ?_
    rw [upd_ne na, upd_ne (ne_of_none e ht)]
    exact e
end
end SH

set_option Elab.async false
set_option linter.all false
set_option maxRecDepth 100000
namespace SH
open PySem L2
abbrev sKept : Stmt := topS 43
abbrev sNames : Stmt := topS 44
abbrev sNumber : Stmt := topS 45
theorem scKept : FnScope [] [] (defScope sKept) := ⟨rfl, rfl, rfl, by decide +kernel, rfl, by decide +kernel, by decide +kernel⟩
theorem scNames : FnScope ["_law_bag_here", "_law_many", "_law_letters", "_law_found", "_law_k", "_law_name", "_law_way", "_law_some", "_law_j", "_law_letter", "_law_one"] ["_law_bag_here", "_law_many"] (defScope sNames) := ⟨rfl, rfl, rfl, by decide +kernel, rfl, by decide +kernel, by decide +kernel⟩
theorem scNumber : FnScope ["_law_bag_here", "_law_way", "_law_found", "_law_k"] ["_law_bag_here"] (defScope sNumber) := ⟨rfl, rfl, rfl, by decide +kernel, rfl, by decide +kernel, by decide +kernel⟩
/-! ### mathematics -/
def kept : List Str := ["work", "room", "go", "call", "wait", "if", "else", "end", "give", "fail"]
def letters : Str := "abcdefghijklmnopqrstuvwxyz"
theorem menu {xs : List V} {i : Int} (h0 : 0 ≤ i) (h1 : i < xs.length) : ∃ v, atI xs i = some v ∧ v ∈ xs := by
  have hk : i.toNat < xs.length := by omega
  refine ⟨xs[i.toNat], ?_, List.getElem_mem hk⟩
  have q : atI xs ((i.toNat : Nat) : Int) = some xs[i.toNat] := atI_nat (List.getElem?_eq_getElem hk)
  rwa [show ((i.toNat : Nat) : Int) = i by omega] at q
theorem menuI {ns : List Int} {i : Int} (h0 : 0 ≤ i) (h1 : i < ns.length) : ∃ k, atI (ns.map V.int) i = some (.int k) ∧ k ∈ ns := by
  obtain ⟨v, e, m⟩ := menu (xs := ns.map V.int) h0 (by rw [List.length_map]; exact h1)
  obtain ⟨k, hk, rfl⟩ := List.mem_map.mp m
  exact ⟨k, e, hk⟩
theorem menuS {ns : List Str} {i : Int} (h0 : 0 ≤ i) (h1 : i < ns.length) : ∃ k, atI (ns.map V.str) i = some (.str k) ∧ k ∈ ns := by
  obtain ⟨v, e, m⟩ := menu (xs := ns.map V.str) h0 (by rw [List.length_map]; exact h1)
  obtain ⟨k, hk, rfl⟩ := List.mem_map.mp m
  exact ⟨k, e, hk⟩
theorem log_ok {i : Int} (h0 : 0 ≤ i) (h1 : i < 1000000 ^ 5) : i.natAbs.log2 < 1920 := by
  by_cases z : i.natAbs = 0
  · rw [z]; decide
  · rw [Nat.log2_lt z]
    have : i.natAbs < 2 ^ 100 := by
      have e : (1000000 : Int) ^ 5 = 1000000000000000000000000000000 := by decide
      have e2 : (2 : Nat) ^ 100 = 1267650600228229401496703205376 := by decide
      rw [e] at h1
      rw [e2]
      omega
    exact Nat.lt_trans this (Nat.pow_lt_pow_right (by decide) (by decide))
def codes (s : Str) : List Nat := s.cps.toList
theorem codes_len (s : Str) : (codes s).length = s.length := Array.length_toList
theorem codes_app (a b : Str) : codes (a ++ b) = codes a ++ codes b := by
  show (a.cps ++ b.cps).toList = _
  rw [Array.toList_append]
  all_goals rfl
theorem codes_inj {a b : Str} (h : codes a = codes b) : a = b := by
  cases a with | mk x =>
  cases b with | mk y =>
  have : x = y := Array.toList_inj.mp h
  rw [this]
/-- a text of one to eight letters -/
def nmOk (s : Str) : Prop := 1 ≤ (codes s).length ∧ (codes s).length ≤ 8 ∧ ∀ c ∈ codes s, 97 ≤ c ∧ c ≤ 122
structure NmsOk (l : List Str) : Prop where
  each : ∀ s ∈ l, nmOk s ∧ s ∉ kept
  nd : l.Nodup
theorem NmsOk.snoc {l : List Str} {s : Str} (h : NmsOk l) (a : nmOk s) (b : s ∉ l ++ kept) : NmsOk (l ++ [s]) := by
  refine ⟨fun x hx => ?_, ?_⟩
  · rcases List.mem_append.mp hx with hx | hx
    · exact h.each x hx
    · rw [List.mem_singleton.mp hx]
      exact ⟨a, fun q => b (List.mem_append_right _ q)⟩
  · exact nd_snoc h.nd fun q => b (List.mem_append_left _ q)
theorem join_codes : ∀ l : List Str, codes (PySem.Txt.join (PySem.Str.ofString "") l) = (l.map codes).flatten := by
  have step : ∀ l : List Str, codes (PySem.Str.join (PySem.Str.ofString "") l) = (l.map codes).flatten := by
    intro l
    induction l with
    | nil => rfl
    | cons a r ih =>
      cases r with
      | nil => show codes a = codes a ++ []; rw [List.append_nil]
      | cons b t =>
        show codes (a ++ PySem.Str.ofString "" ++ PySem.Str.join (PySem.Str.ofString "") (b :: t)) = codes a ++ ((b :: t).map codes).flatten
        rw [codes_app, codes_app, ih]
        have z : codes (PySem.Str.ofString "") = [] := by decide +kernel
        rw [z, List.append_nil]
  intro l
  show codes (Builtin.Str.glued (PySem.Str.ofString "") l) = _
  rw [StrLaws.glued_eq_join]
  exact step l
theorem pig : ∀ (xs L : List Str), xs.Nodup → L.length < xs.length → ∃ x ∈ xs, x ∉ L
  | [], L, _, h => absurd h (Nat.not_lt_zero _)
  | x :: r, L, hn, h => by
    obtain ⟨h1, h2⟩ := List.nodup_cons.mp hn
    by_cases hx : x ∈ L
    · have hl := List.length_erase_of_mem hx
      rw [List.length_cons] at h
      obtain ⟨y, hy, hyL⟩ := pig r (L.erase x) h2 (by have := List.length_pos_of_mem hx; omega)
      refine ⟨y, List.mem_cons_of_mem _ hy, fun q => hyL ?_⟩
      refine (List.mem_erase_of_ne ?_).mpr q
      intro e
      rw [e] at hy
      exact h1 hy
    · exact ⟨x, List.mem_cons_self, hx⟩
def one (c : Nat) : Str := ⟨#[c]⟩
theorem codes_one (c : Nat) : codes (one c) = [c] := rfl
/-- the twenty-six of a name: another first letter -/
def some26 (s : Str) : List Str := (codes letters).map fun c => one c ++ cutS s (some 1) none
theorem cut1 (s : Str) : codes (cutS s (some 1) none) = (codes s).drop 1 := by
  unfold cutS
  show (((s.cps.toList.drop (HT.sIx s.length 0 (some 1))).take (HT.sIx s.length s.length none - HT.sIx s.length 0 (some 1))).toArray).toList = _
  rw [List.toList_toArray, show HT.sIx s.length 0 (some 1) = min 1 s.length from HT.sIx_nat s.length 0 1, HT.sIx_none]
  show (List.drop (min 1 s.length) (codes s)).take (s.length - min 1 s.length) = (codes s).drop 1
  rw [← codes_len]
  cases hc : codes s with
  | nil => rfl
  | cons x r =>
    rw [show min 1 (x :: r).length = 1 by rw [List.length_cons]; omega]
    show r.take ((x :: r).length - 1) = r
    rw [List.length_cons, Nat.add_sub_cancel, List.take_length]
theorem cutN {s : Str} {n : Nat} : codes (cutS s none (some (n : Int))) = (codes s).take n := by
  unfold cutS
  show (((s.cps.toList.drop (HT.sIx s.length 0 none)).take (HT.sIx s.length s.length (some (n : Int)) - HT.sIx s.length 0 none)).toArray).toList = _
  rw [List.toList_toArray, HT.sIx_nat, HT.sIx_none]
  show (List.drop 0 (codes s)).take (min n s.length - 0) = (codes s).take n
  rw [List.drop_zero, Nat.sub_zero, ← codes_len]
  by_cases h : n ≤ (codes s).length
  · rw [Nat.min_eq_left h]
  · rw [Nat.min_eq_right (by omega), List.take_length, List.take_of_length_le (by omega)]
theorem some26_nd (s : Str) : (some26 s).Nodup := by
  have base : (codes letters).Nodup := by decide +kernel
  unfold some26
  refine List.Pairwise.map _ ?_ base
  intro a b hab e
  have q := congrArg codes e
  rw [codes_app, codes_app, codes_one, codes_one] at q
  exact hab (List.cons.inj q).1
theorem some26_len (s : Str) : (some26 s).length = 26 := by
  unfold some26
  rw [List.length_map]
  decide +kernel
theorem letters_ok : ∀ c ∈ codes letters, 97 ≤ c ∧ c ≤ 122 := by decide +kernel
theorem kept_ok : ∀ s ∈ kept, ∀ c ∈ codes s, 97 ≤ c ∧ c ≤ 122 := by decide +kernel
theorem kept_pos : ∀ s ∈ kept, 1 ≤ (codes s).length ∧ (codes s).length ≤ 4 := by decide +kernel
theorem some26_ok {s t : Str} (h : nmOk s) (ht : t ∈ some26 s) : nmOk t := by
  unfold some26 at ht
  obtain ⟨c, hc, rfl⟩ := List.mem_map.mp ht
  obtain ⟨h1, h2, h3⟩ := h
  have e : codes (one c ++ cutS s (some 1) none) = c :: (codes s).drop 1 := by rw [codes_app, codes_one, cut1]; rfl
  refine ⟨?_, ?_, ?_⟩
  · rw [e, List.length_cons]; omega
  · rw [e, List.length_cons, List.length_drop]; omega
  · rw [e]
    intro x hx
    rcases List.mem_cons.mp hx with rfl | hx
    · exact letters_ok _ hc
    · exact h3 _ (List.mem_of_mem_drop hx)
theorem inV_str {x : Str} : ∀ {l : List Str}, inV (.str x) (l.map V.str) = decide (x ∈ l)
  | [] => rfl
  | y :: r => by
    show (eqV (.str y) (.str x) || inV (.str x) (r.map V.str)) = _
    rw [inV_str (l := r)]
    show ((y == x) || decide (x ∈ r)) = _
    by_cases e : x = y
    · subst e; simp
    · have e' : (y == x) = false := by simpa using fun h => e h.symm
      rw [e', Bool.false_or]
      simp [e]
theorem flat_strs (l : List Str) : (l.map V.str).all flatV = true := by
  rw [List.all_eq_true]
  intro x hx
  obtain ⟨s, _, rfl⟩ := List.mem_map.mp hx
  rfl
def spKept : Sp := fun vs H Q _ => vs = [] ∧ ∀ p, H p = none → Q (.ref p) (upd H p (.lst (kept.map V.str)))
def spNumber : Sp := fun vs H Q _ => ∃ (b : Addr) (n : Nat), vs = [.ref b] ∧ Bag H b (n + 8) ∧
  ∀ (i : Int) (H' : Hp), 0 ≤ i → i < 1000000 ^ 5 → Bag H' b n → But b H H' → Q (.int i) H'
def spNames : Sp := fun vs H Q _ => ∃ (b : Addr) (m n : Nat), vs = [.ref b, .int m] ∧ m ≤ 12 ∧ Bag H b (n + 16 * m) ∧
  ∀ (p : Addr) (nm : List Str) (H' : Hp), H p = none → H' p = some (.lst (nm.map V.str)) → nm.length = m → NmsOk nm → Bag H' b n → But b H H' → Q (.ref p) H'
section
variable {P : Program} {w : World} {K : PySem.W.Frag} {mg : Str → Option Value} {base : Heap}
theorem ok_kept {f : Addr} {fd : FuncData} (F : Fun K "_law_kept" "_law_kept" sKept f fd) : FnOk P w K mg base CX0 1 f fd [] spKept := by
  refine F.ok scKept (fun vs H Q E h => ?_) (fun cdv A outer s H vs Q E hr h => ?_)
  · obtain ⟨rfl, _⟩ := h
    rfl
  obtain ⟨rfl, q⟩ := h
  refine ⟨_, (pss_one (ps_ret (pe_lst (pa_cons pe_str (pa_cons pe_str (pa_cons pe_str (pa_cons pe_str (pa_cons pe_str (pa_cons pe_str (pa_cons pe_str (pa_cons pe_str (pa_cons pe_str (pa_cons pe_str pa_nil))))))))))))), ?_⟩
  exact ⟨by show 10 ≤ sizeLine; decide, fun p hp => q p hp⟩
theorem But.new {b : Addr} {H : Hp} {p : Addr} (h : H p = none) (o : HO) : But b H (upd H p o) := .of (same_new h o)
theorem ok_number {f t : Addr} {fd td : FuncData} (F : Fun K "_law_number" "_law_number" sNumber f fd) (TK : Fk P w K mg base 1 "_law_take" t td ["_law_bag_here", "_law_many"] spTake) (T : Bi mg) :
    FnOk P w K mg base CX0 2 f fd ["_law_bag_here"] spNumber := by
  refine F.ok scNumber (fun vs H Q E h => ?_) (fun cdv A outer s H vs Q E hr h => ?_)
  · obtain ⟨b, n, rfl, _⟩ := h
    rfl
  obtain ⟨b, n, rfl, hB, q⟩ := h
  refine ⟨_, (pss_cons (ps_set (i := 1) scNumber.nd rfl (Or.inl rfl) (pe_call TK.G (hr.mono (by omega)) (by rfl) TK.m TK.k TK.b .nil pass0 (pa_cons (pv 0) (pa_cons pe_int pa_nil))))
    (pss_cons (ps_if (pt_cmpR op_lt (pv 1) pe_int (nomark _))
      (pss_one (ps_ret (pe_call TK.G (hr.mono (by omega)) (by rfl) TK.m TK.k TK.b .nil pass0 (pa_cons (pv 0) (pa_cons (pe_ix ix_list (pe_lst (pa_cons pe_int (pa_cons pe_int pa_nil))) (pv 1) (fun _ _ => rfl)) pa_nil)))))
      pss_nil)
    (pss_cons (ps_set (i := 2) scNumber.nd rfl (Or.inl rfl) pe_int)
    (pss_cons (ps_for PassesOwn.never rfl (pi_range1 (by rfl) T.range (pa_cons (pe_ix ix_list (pe_lst (pa_cons pe_int (pa_cons pe_int pa_nil))) (pe_op op_sub (pv 1) pe_int) (fun _ _ => rfl)) pa_nil)) (pg_name (i := 3) scNumber.nd rfl (.inl rfl))
      (pss_one (ps_set (i := 2) scNumber.nd rfl (Or.inl rfl) (pe_op op_add (pe_op op_mul (pv 2) (pe_op op_pow pe_int pe_int)) (pe_call TK.G (hr.mono (by omega)) (by rfl) TK.m TK.k TK.b .nil pass0 (pa_cons (pv 0) (pa_cons (pe_op op_pow pe_int pe_int) pa_nil)))))))
    (pss_one (ps_ret (pv 2))))))), ?_⟩
  refine ⟨_, rfl, b, 4, n + 7, rfl, by decide, by decide, hB, fun d1 H1 a1 a2 B1 U1 => ?_⟩
  refine ⟨_, rfl, _, _, rfl, rfl, _, rfl, ?_⟩
  refine ite2 (fun c => ?_) (fun c => ?_)
  · have c' : d1 < 2 := of_decide_eq_true c
    obtain ⟨v, e, hv⟩ := menuI (ns := [4, 30]) a1 (by show d1 < 2; exact c')
    have hv' : v = 4 ∨ v = 30 := by simpa using hv
    refine ⟨_, rfl, (by show 2 ≤ sizeLine; decide), fun l hl => ?_⟩
    refine ⟨_, rfl, l, _, _, _, rfl, rfl, SqL.of upd_same, e, b, v, n + 6, rfl, by omega, by omega, B1.same (same_new hl _), fun d2 H2 b1 b2 B2 U2 => ?_⟩
    refine q _ _ b1 ?_ (B2.less (by omega)) (U1.trans ((But.new hl _).trans U2))
    have e : (1000000 : Int) ^ 5 = 1000000000000000000000000000000 := by decide
    rw [e]
    omega
  · have c' : ¬ d1 < 2 := of_decide_eq_false (Bool.eq_false_iff.mpr c)
    obtain ⟨v, e, hv⟩ := menuI (ns := [2, 5]) (i := d1 - 2) (by omega) (by show d1 - 2 < 2; omega)
    have hv' : v = 2 ∨ v = 5 := by simpa using hv
    refine ⟨(by show 2 ≤ sizeLine; decide), fun l hl => ?_⟩
    refine ⟨_, rfl, _, _, rfl, rfl, l, _, _, _, rfl, rfl, SqL.of upd_same, e, v, rfl, by omega, by omega, ?_⟩
    refine for_range (lo := 0) (n := v.toNat) (fun i σ H' => ∃ (c : Int) (y : Option V), σ = [some (.ref b), some (.int d1), some (.int c), y] ∧ 0 ≤ c ∧ c < 1000000 ^ i ∧ Bag H' b (n + 5 - i) ∧ But b H H') ?_ ?_ ?_
    · exact ⟨0, none, rfl, Int.le_refl _, by decide, (B1.same (same_new hl _)).less (by omega), U1.trans (But.new hl _)⟩
    · rintro i σ H2 hi ⟨c, y, rfl, c0, c1, B2, U2⟩
      refine ⟨_, rfl, _, _, rfl, rfl, ⟨by decide, by decide, by decide⟩, _, _, rfl, rfl, .inr ⟨by decide, by decide⟩, ?_⟩
      refine ⟨_, rfl, _, _, rfl, rfl, ⟨by decide, by decide, by decide⟩, b, _, n + 4 - i, rfl, by decide, by decide, B2.less (by omega), fun d2 H3 b1 b2 B3 U3 => ?_⟩
      refine ⟨_, _, rfl, rfl, _, _, rfl, ?_, ?_, B3.less (by omega), U2.trans U3⟩
      · show 0 ≤ c * 1000000 + d2
        omega
      · have b2' : d2 < 1000000 := b2
        show c * 1000000 + d2 < 1000000 ^ (i + 1)
        rw [Int.pow_succ]
        generalize (1000000 : Int) ^ i = X at c1 ⊢
        omega
    · rintro σ H2 ⟨c, y, rfl, c0, c1, B2, U2⟩
      refine ⟨_, rfl, q c H2 c0 ?_ (B2.less (by omega)) U2⟩
      rcases hv' with rfl | rfl
      · exact Int.lt_trans c1 (by decide)
      · exact c1
end
end SH

set_option Elab.async false
set_option linter.all false
set_option maxRecDepth 100000
namespace SH
open PySem L2
theorem signs_ok {l : List Str} (h1 : 1 ≤ l.length) (h8 : l.length ≤ 8) (h : ∀ s ∈ l, ∃ c, s = one c ∧ 97 ≤ c ∧ c ≤ 122) : nmOk (PySem.Txt.join (PySem.Str.ofString "") l) := by
  have e : ∀ l : List Str, (∀ s ∈ l, ∃ c, s = one c ∧ 97 ≤ c ∧ c ≤ 122) → ((l.map codes).flatten).length = l.length ∧ ∀ c ∈ (l.map codes).flatten, 97 ≤ c ∧ c ≤ 122 := by
    intro l
    induction l with
    | nil => intro _; exact ⟨rfl, fun c hc => by cases hc⟩
    | cons a r ih =>
      intro h
      obtain ⟨i1, i2⟩ := ih fun s hs => h s (List.mem_cons_of_mem _ hs)
      obtain ⟨c, rfl, c1, c2⟩ := h a List.mem_cons_self
      refine ⟨?_, ?_⟩
      · show (c :: (r.map codes).flatten).length = r.length + 1
        rw [List.length_cons, i1]
      · intro x hx
        rcases List.mem_cons.mp (show x ∈ c :: (r.map codes).flatten from hx) with rfl | hx
        · exact ⟨c1, c2⟩
        · exact i2 x hx
  obtain ⟨e1, e2⟩ := e l h
  refine ⟨?_, ?_, ?_⟩
  · rw [join_codes, e1]; exact h1
  · rw [join_codes, e1]; exact h8
  · rw [join_codes]; exact e2
theorem pre_ok {k s : Str} {n : Nat} (hk : k ∈ kept) (hs : nmOk s) (h1 : 1 ≤ n) (h8 : n ≤ 8) : nmOk (cutS (k ++ s) none (some (n : Int))) := by
  obtain ⟨k1, k2⟩ := kept_pos k hk
  obtain ⟨s1, s2, s3⟩ := hs
  refine ⟨?_, ?_, ?_⟩
  · rw [cutN, codes_app, List.length_take, List.length_append]; omega
  · rw [cutN, List.length_take]; omega
  · rw [cutN, codes_app]
    intro c hc
    rcases List.mem_append.mp (List.mem_of_mem_take hc) with h | h
    · exact kept_ok k hk c h
    · exact s3 c h
theorem ones_len : ∀ l : List Str, (∀ s ∈ l, ∃ c, s = one c ∧ 97 ≤ c ∧ c ≤ 122) → (l.map (·.length)).sum = l.length
  | [], _ => rfl
  | a :: r, h => by
    have ih := ones_len r fun s hs => h s (List.mem_cons_of_mem _ hs)
    obtain ⟨c, rfl, _⟩ := h a List.mem_cons_self
    show (one c).length + (r.map (·.length)).sum = r.length + 1
    rw [ih]
    show 1 + r.length = r.length + 1
    omega
theorem letter_at {i : Int} (h0 : 0 ≤ i) (h1 : i < 26) : ∃ c, atI letters.cps.toList i = some c ∧ 97 ≤ c ∧ c ≤ 122 := by
  have hl : (codes letters).length = 26 := by decide +kernel
  have hk : i.toNat < (codes letters).length := by omega
  refine ⟨(codes letters)[i.toNat], ?_, letters_ok _ (List.getElem_mem hk)⟩
  have q : atI (codes letters) ((i.toNat : Nat) : Int) = some (codes letters)[i.toNat] := atI_nat (List.getElem?_eq_getElem hk)
  rwa [show ((i.toNat : Nat) : Int) = i by omega] at q
theorem filt_snoc {l : List Str} {L : List Str} {i : Nat} {x : Str} (h : l[i]? = some x) : (l.take (i + 1)).filter (fun y => !decide (y ∈ L)) = (l.take i).filter (fun y => !decide (y ∈ L)) ++ (if (!decide (x ∈ L)) = true then [x] else []) := by
  rw [List.take_add_one, h, List.filter_append]
  congr 1
  show List.filter _ [x] = _
  rw [List.filter_cons, List.filter_nil]
theorem names_len {l : List Str} (h : NmsOk l) : True := trivial
section
variable {P : Program} {w : World} {K : PySem.W.Frag} {mg : Str → Option Value} {base : Heap}
theorem ok_names {f t k : Addr} {fd td kd : FuncData} (F : Fun K "_law_names" "_law_names" sNames f fd) (TK : Fk P w K mg base 1 "_law_take" t td ["_law_bag_here", "_law_many"] spTake) (KP : Fk P w K mg base 1 "_law_kept" k kd [] spKept) (T : Bi mg) :
    FnOk P w K mg base CX0 2 f fd ["_law_bag_here", "_law_many"] spNames := by
  refine F.ok scNames (fun vs H Q E h => ?_) (fun cdv A outer s H vs Q E hr h => ?_)
  · obtain ⟨b, m, n, rfl, _⟩ := h
    rfl
  obtain ⟨b, m, n, rfl, hm, hB, q⟩ := h
  refine ⟨_, (pss_cons (ps_set (i := 2) scNames.nd rfl (Or.inr rfl) pe_str)
    (pss_cons (ps_set (i := 3) scNames.nd rfl (Or.inr rfl) (pe_lst pa_nil))
    (pss_cons (ps_for PassesOwn.never rfl (pi_range1 (by rfl) T.range (pa_cons (pv 1) pa_nil)) (pg_name (i := 4) scNames.nd rfl (.inl rfl))
      (pss_cons (ps_set (i := 5) scNames.nd rfl (Or.inr rfl) (pe_join pe_str (pe_lc (own := [("_law_j", 8)]) (g := gName 8) (tt := tYes) (by rfl) scNames.nd (pi_range1 (by rfl) T.range (pa_cons (pe_ix ix_list (pe_lst (pa_cons pe_int (pa_cons pe_int (pa_cons pe_int (pa_cons pe_int pa_nil))))) (pe_call TK.G (hr.mono (by omega)) (by rfl) TK.m TK.k TK.b .nil pass0 (pa_cons (pv 0) (pa_cons pe_int pa_nil))) (fun _ _ => rfl)) pa_nil)) (blkOk_by (own := [("_law_j", 8)]) (N := ["_law_bag_here", "_law_many", "_law_letters", "_law_found", "_law_k", "_law_name", "_law_way", "_law_some", "_law_j", "_law_letter", "_law_one"]) (sc := defScope sNames) (by decide +kernel)) (fun _ _ _ _ _ => pg_name (i := 8) scNames.nd rfl (Or.inl rfl)) (fun _ _ _ _ _ => pts_nil) (fun _ _ _ _ _ => (pe_ix ix_str (pv 2) (pe_call TK.G (hr.mono (by omega)) (by rfl) TK.m TK.k TK.b .nil pass0 (pa_cons (pv 0) (pa_cons pe_int pa_nil))) (fun _ _ => rfl))))))
    (pss_cons (ps_set (i := 6) scNames.nd rfl (Or.inl rfl) (pe_call TK.G (hr.mono (by omega)) (by rfl) TK.m TK.k TK.b .nil pass0 (pa_cons (pv 0) (pa_cons pe_int pa_nil))))
    (C8.pss_cut (ps_if (pt_cmpR op_lt (pv 6) pe_int (nomark _))
      (pss_one (ps_set (i := 5) scNames.nd rfl (Or.inr rfl) (pe_slice sl_str (pe_op op_add_str (pe_ix ix_list (pe_call0 KP.G (hr.mono (by omega)) (by rfl) KP.m KP.k KP.b .nil pass0) (pe_call TK.G (hr.mono (by omega)) (by rfl) TK.m TK.k TK.b .nil pass0 (pa_cons (pv 0) (pa_cons pe_int pa_nil))) (fun _ _ => rfl)) (pv 5)) po_none (po_some (pe_ix ix_list (pe_lst (pa_cons pe_int (pa_cons pe_int pa_nil))) (pv 6) (fun _ _ => rfl))))))
      pss_nil)
    (pss_cons (ps_setLc (i := 7) (own := [("_law_letter", 9)]) (g := gName 9) (tt := tYes) (by rfl) scNames.nd rfl rfl (sw_true rfl rfl rfl (by decide +kernel)) (pi_str (pv 2)) (blkOk_by (own := [("_law_letter", 9)]) (N := ["_law_bag_here", "_law_many", "_law_letters", "_law_found", "_law_k", "_law_name", "_law_way", "_law_some", "_law_j", "_law_letter", "_law_one"]) (sc := defScope sNames) (by decide +kernel)) (fun _ _ _ _ _ => pg_name (i := 9) scNames.nd rfl (Or.inl rfl)) (fun _ _ _ _ _ => pts_nil) (fun _ _ _ _ _ => (pe_op op_add_str (pv 9) (pe_slice sl_str (pv 5) (po_some pe_int) po_none))))
    (C8.pss_cut (ps_if (pt_cmpR op_in_seq (pv 5) (pe_op op_cat (pv 3) (pe_call0 KP.G (hr.mono (by omega)) (by rfl) KP.m KP.k KP.b .nil pass0)) rfl)
      (pss_one (ps_set (i := 5) scNames.nd rfl (Or.inr rfl) (pe_ix ix_list (pe_lc (own := [("_law_one", 10)]) (g := gName 10) (tt := tTest (tOp (rIn K true) (tVar 10) (tOp rCat (tVar 3) (tCall spKept [] E0 tNil)))) (by rfl) scNames.nd (pi_list (pv 7)) (blkOk_by (own := [("_law_one", 10)]) (N := ["_law_bag_here", "_law_many", "_law_letters", "_law_found", "_law_k", "_law_name", "_law_way", "_law_some", "_law_j", "_law_letter", "_law_one"]) (sc := defScope sNames) (by decide +kernel)) (fun _ _ _ _ _ => pg_name (i := 10) scNames.nd rfl (Or.inl rfl)) (fun _ _ _ _ _ => (pts_one (pt_cmpR (op_notIn_seqK K) (pv 10) (pe_op op_cat (pv 3) (pe_call0 KP.G (hr.mono (by omega)) (by rfl) KP.m KP.k KP.b .nil pass0)) rfl))) (fun _ _ _ _ _ => (pv 10))) pe_int (fun _ _ => rfl))))
      pss_nil)
    (pss_one (ps_expr (pe_bm PySem.F.plainAttrs_list PySem.F.slot_list_append PySem.F.type_list_append mt_append (pv 3) (pa_cons (pv 5) pa_nil))))))))))
    (pss_one (ps_ret (pv 3)))))), ?_⟩
  have hs : sizeLine = 16777216 := by decide
  refine ⟨Nat.zero_le _, fun p hp => ?_⟩
  obtain ⟨ys0, hb0⟩ := hB.lst
  have npb : p ≠ b := fun e => by rw [e, hb0] at hp; cases hp
  refine ⟨_, rfl, m, rfl, by omega, by omega, ?_⟩
  refine for_range (lo := 0) (n := (m : Int).toNat) (fun i σ H' => ∃ (nm : List Str) (y4 y5 y6 y7 : Option V), σ = [some (.ref b), some (.int m), some (.str letters), some (.ref p), y4, y5, y6, y7, none, none, none] ∧
    H' p = some (.lst (nm.map V.str)) ∧ nm.length = i ∧ NmsOk nm ∧ Bag H' b (n + 16 * (m - i)) ∧ But b H H') ?_ ?_ ?_
  · exact ⟨[], none, none, none, none, rfl, upd_same, rfl, ⟨fun s h => (by cases h), List.nodup_nil⟩, hB.same (same_new hp _), But.new hp _⟩
  · rintro i σ H1 hi ⟨nm, y4, y5, y6, y7, rfl, hp1, hl, hN, B1, U1⟩
    have hi' : i < m := by omega
    -- the name by its letters
    refine ⟨⟨_, rfl⟩, (by show 4 ≤ sizeLine; decide), fun l1 hl1 => ?_⟩
    refine ⟨_, rfl, b, 4, n + 16 * (m - i) - 1, rfl, by decide, by decide, (B1.same (same_new hl1 _)).less (by omega), fun d1 H2 a1 a2 B2 U2 => ?_⟩
    have nb1 : l1 ≠ b := fun e => by obtain ⟨ys, hy⟩ := B1.lst; rw [e, hy] at hl1; cases hl1
    have hl2 : H2 l1 = some (.lst (([1, 2, 3, 8] : List Int).map V.int)) := U2 _ _ nb1 upd_same
    obtain ⟨v, ev, hv⟩ := menuI (ns := [1, 2, 3, 8]) a1 (by show d1 < 4; exact a2)
    have hv' : 1 ≤ v ∧ v ≤ 8 := by
      have : v = 1 ∨ v = 2 ∨ v = 3 ∨ v = 8 := by simpa using hv
      omega
    refine ⟨l1, _, _, _, rfl, rfl, SqL.of hl2, ev, v, rfl, by omega, by omega, ?_⟩
    intro D hD
    have hp2 : H2 p = some (.lst (nm.map V.str)) := U2 _ _ npb ((same_new hl1 _) _ _ hp1)
    have nDb : D ≠ b := fun e => by obtain ⟨ys, hy⟩ := B2.lst; rw [e, hy] at hD; cases hD
    have nDp : D ≠ p := fun e => by rw [e, hp2] at hD; cases hD
    have U12 : But b H1 H2 := (But.new hl1 _).trans U2
    refine lc_range (lo := 0) (n := v.toNat) (fun j H' => ∃ ss : List Str, H' D = some (.lst (ss.map V.str)) ∧ ss.length = j ∧ (∀ s ∈ ss, ∃ c, s = one c ∧ 97 ≤ c ∧ c ≤ 122) ∧ Bag H' b (n + 16 * (m - i) - 1 - j) ∧ (∀ a o, a ≠ b → a ≠ D → H2 a = some o → H' a = some o)) ?_ ?_ ?_
    · refine ⟨[], upd_same, rfl, fun s h => (by cases h), (B2.same (same_new hD _)).less (by omega), fun a o _ _ e => (same_new hD _) _ _ e⟩
    · rintro j H3 hj ⟨ss, hD3, hss, hone, B3, U3⟩
      refine ⟨rfl, ?_⟩
      refine ⟨_, rfl, _, rfl, b, 26, n + 16 * (m - i) - 2 - j, rfl, by decide, by decide, B3.less (by omega), fun d2 H4 b1 b2 B4 U4 => ?_⟩
      obtain ⟨c, ec, c1, c2⟩ := letter_at b1 b2
      refine ⟨letters, _, c, rfl, rfl, (by show letters.length ≤ sizeLine; decide +kernel), ec, ?_⟩
      refine ⟨_, U4 _ _ nDb hD3, by rw [List.length_map, hss]; omega, ss ++ [one c], ?_, by rw [List.length_append, hss]; rfl, ?_, ?_, ?_⟩
      · rw [upd_same, List.map_append]
        rfl
      · intro s hs'
        rcases List.mem_append.mp hs' with h | h
        · exact hone s h
        · exact ⟨c, List.mem_singleton.mp h, c1, c2⟩
      · have B5 : Bag (upd H4 D (.lst (ss.map V.str ++ [V.str (one c)]))) b (n + 16 * (m - i) - 2 - j) := by
          obtain ⟨x, y, z, e, r⟩ := B4
          exact ⟨x, y, z, by rw [upd_ne (Ne.symm nDb)]; exact e, r⟩
        exact B5.less (by omega)
      · intro a o na nd e
        rw [upd_ne nd]
        exact U4 _ _ na (U3 a o na nd e)
    · rintro H3 ⟨ss, hD3, hss, hone, B3, U3⟩
      have hp3 : H3 p = some (.lst (nm.map V.str)) := U3 _ _ npb (Ne.symm nDp) hp2
      have U13 : But b H1 H3 := fun a o na e => U3 a o na (ne_of_none (U12 a o na e) hD) (U12 a o na e)
      refine ⟨_, D, ss, rfl, rfl, .inl (SqL.of hD3), ?_, ?_⟩
      · rw [ones_len ss hone, hss]
        have z : (PySem.Str.ofString "").length = 0 := by decide
        rw [z]
        omega
      have nok : nmOk (PySem.Txt.join (PySem.Str.ofString "") ss) := signs_ok (by rw [hss]; omega) (by rw [hss]; omega) hone
      generalize PySem.Txt.join (PySem.Str.ofString "") ss = nme at nok
      -- its way
      refine ⟨_, rfl, b, 8, n + 16 * (m - i) - 10, rfl, by decide, by decide, B3.less (by omega), fun d3 H4 c1 c2 B4 U4 => ?_⟩
      have hp4 : H4 p = some (.lst (nm.map V.str)) := U4 _ _ npb hp3
      refine ⟨fun σ' H' => ∃ nme', nmOk nme' ∧ σ' = [some (.ref b), some (.int m), some (.str letters), some (.ref p), some (.int (0 + i)), some (.str nme'), some (.int d3), y7, none, none, none] ∧ H' p = some (.lst (nm.map V.str)) ∧ Bag H' b (n + 16 * (m - i) - 11) ∧ But b H1 H', ?_, ?_⟩
      · refine ⟨_, rfl, _, _, rfl, rfl, _, rfl, ?_⟩
        refine ite2 (fun c => ?_) (fun c => ?_)
        · have c' : d3 < 2 := of_decide_eq_true c
          refine ⟨rfl, fun kp hkp => ?_⟩
          have nkb : kp ≠ b := fun e => by obtain ⟨ys, hy⟩ := B4.lst; rw [e, hy] at hkp; cases hkp
          refine ⟨_, rfl, b, 10, n + 16 * (m - i) - 11, rfl, by decide, by decide, (B4.same (same_new hkp _)).less (by omega), fun d4 H5 e1 e2 B5 U5 => ?_⟩
          obtain ⟨kw, ek, hk⟩ := menuS (ns := kept) e1 (by show d4 < 10; exact e2)
          have hk5 : H5 kp = some (.lst (kept.map V.str)) := U5 _ _ nkb upd_same
          refine ⟨kp, _, _, _, rfl, rfl, SqL.of hk5, ek, _, rfl, kw, nme, rfl, rfl, ?_, ?_⟩
          · have k2 := (kept_pos kw hk).2
            have n2 := nok.2.1
            rw [codes_len] at k2 n2
            omega
          obtain ⟨lim, el, hlim⟩ := menuI (ns := [8, 5]) c1 (by show d3 < 2; exact c')
          have hlim' : lim = 8 ∨ lim = 5 := by simpa using hlim
          refine ⟨(by show 2 ≤ sizeLine; decide), fun l2 hl2' => ?_⟩
          refine ⟨_, rfl, l2, _, _, _, rfl, rfl, SqL.of upd_same, el, _, rfl, kw ++ nme, rfl, ?_, ?_⟩
          · have k2 := (kept_pos kw hk).2
            have n2 := nok.2.1
            rw [codes_len] at k2 n2
            rw [app_len]
            omega
          refine ⟨cutS (kw ++ nme) none (some lim), ?_, rfl, ?_, ?_, ?_⟩
          · rcases hlim' with rfl | rfl
            · exact pre_ok (n := 8) hk nok (by decide) (by decide)
            · exact pre_ok (n := 5) hk nok (by decide) (by decide)
          · exact (same_new hl2' _) _ _ (U5 _ _ npb ((same_new hkp _) _ _ hp4))
          · exact B5.same (same_new hl2' _)
          · exact U13.trans (U4.trans ((But.new hkp _).trans (U5.trans (But.new hl2' _))))
        · exact ⟨nme, nok, rfl, hp4, B4.less (by omega), U13.trans U4⟩
      · rintro σ' H5 ⟨nme', nok', rfl, hp5, B5, U5⟩
        -- the twenty-six others
        refine ⟨_, rfl, letters, rfl, ?_⟩
        intro D2 hD2
        have nD2b : D2 ≠ b := fun e => by obtain ⟨ys, hy⟩ := B5.lst; rw [e, hy] at hD2; cases hD2
        have sz : letters.cps.size = 26 := by decide +kernel
        refine lc_it walk_str (fun j H' => H' = upd H5 D2 (.lst (((some26 nme').take j).map V.str))) rfl (fun _ _ _ _ => trivial) ?_ ?_
        · rintro j x H6 H7 hj rfl ⟨rfl, c, hc, rfl⟩
          refine ⟨rfl, ?_⟩
          refine ⟨_, rfl, _, rfl, 1, rfl, nme', rfl, ?_, one c, _, rfl, rfl, ?_, ?_⟩
          · have := nok'.2.1
            rw [codes_len] at this
            omega
          · have := nok'.2.1
            have e1 := cut1 nme'
            have e2 := congrArg List.length e1
            rw [codes_len, List.length_drop] at e2
            have e3 : (one c).length = 1 := rfl
            omega
          · refine ⟨_, upd_same, ?_, ?_⟩
            · rw [List.length_map, List.length_take]
              omega
            · have hx : (some26 nme')[j]? = some (one c ++ cutS nme' (some 1) none) := by
                unfold some26
                rw [List.getElem?_map, show (codes letters)[j]? = some c from by unfold codes; rw [Array.getElem?_toList]; exact hc]
                rfl
              rw [List.take_add_one, hx, List.map_append]
              funext a
              by_cases ha : a = D2
              · subst ha
                rw [upd_same, upd_same]
                rfl
              · rw [upd_ne ha, upd_ne ha, upd_ne ha]
        · rintro H6 rfl
          have e26 : (some26 nme').take letters.cps.size = some26 nme' := List.take_of_length_le (by rw [some26_len, sz]; omega)
          rw [e26]
          have s6 : Same H5 (upd H5 D2 (.lst ((some26 nme').map V.str))) := same_new hD2 _
          have hD6 : (upd H5 D2 (.lst ((some26 nme').map V.str))) D2 = some (.lst ((some26 nme').map V.str)) := upd_same
          generalize upd H5 D2 (.lst ((some26 nme').map V.str)) = H6 at s6 hD6
          have hp6 := s6 _ _ hp5
          have B6 := B5.same s6
          have len12 : (nm ++ kept).length ≤ 22 := by
            rw [List.length_append]
            have : kept.length = 10 := rfl
            omega
          refine ⟨fun σ' H' => ∃ fin, nmOk fin ∧ fin ∉ nm ++ kept ∧ σ' = [some (.ref b), some (.int m), some (.str letters), some (.ref p), some (.int (0 + i)), some (.str fin), some (.int d3), some (.ref D2), none, none, none] ∧ Same H6 H', ?_, ?_⟩
          · refine ⟨_, rfl, _, rfl, rfl, fun kp hkp => ?_⟩
            have sk : Same H6 (upd H6 kp (.lst (kept.map V.str))) := same_new hkp _
            refine ⟨p, kp, _, _, rfl, rfl, sk _ _ hp6, upd_same, ?_, fun u hu => ?_⟩
            · rw [List.length_map, List.length_map]
              have : kept.length = 10 := rfl
              omega
            have su : Same _ _ := same_new hu (.lst (nm.map V.str ++ kept.map V.str))
            refine ⟨u, _, rfl, .inl (SqL.of upd_same), rfl, ?_, _, rfl, ?_⟩
            · rw [← List.map_append]; exact flat_strs _
            rw [← List.map_append] at su ⊢
            rw [if_neg Bool.false_ne_true, inV_str]
            refine ite2 (fun c => ?_) (fun c => ?_)
            · have su' := sk.trans su
              generalize upd (upd H6 kp (.lst (kept.map V.str))) u (.lst ((nm ++ kept).map V.str)) = H8 at su'
              -- [one for one in some if ..][0]
              refine ⟨_, rfl, D2, rfl, ⟨_, SqL.of (su' _ _ hD6)⟩, ?_⟩
              intro D3 hD3
              refine lc_list (K := K) (a := D2) (xs := (some26 nme').map V.str) (fun j H' => H' D3 = some (.lst ((((some26 nme').take j).filter (fun y => !decide (y ∈ nm ++ kept))).map V.str)) ∧ Same H8 H') ⟨upd_same, same_new hD3 _⟩ (fun j H' _ h => SqL.of (h.2 _ _ (su' _ _ hD6))) ?_ ?_
              · rintro j x H9 hx ⟨h9, s9⟩
                obtain ⟨x', hx', rfl⟩ : ∃ x', (some26 nme')[j]? = some x' ∧ V.str x' = x := by
                  rw [List.getElem?_map] at hx
                  obtain ⟨x', h1, h2⟩ := Option.map_eq_some_iff.mp hx
                  exact ⟨x', h1, h2⟩
                have hj26 : j < 26 := by
                  obtain ⟨h1, _⟩ := List.getElem?_eq_some_iff.mp hx'
                  rwa [some26_len] at h1
                refine ⟨rfl, ?_⟩
                refine ⟨_, rfl, _, rfl, rfl, fun kp2 hkp2 => ?_⟩
                have sk2 : Same H9 (upd H9 kp2 (.lst (kept.map V.str))) := same_new hkp2 _
                refine ⟨p, kp2, _, _, rfl, rfl, sk2 _ _ (s9 _ _ (su' _ _ hp6)), upd_same, ?_, fun u2 hu2 => ?_⟩
                · rw [List.length_map, List.length_map]
                  have : kept.length = 10 := rfl
                  omega
                have su2 : Same _ _ := same_new hu2 (.lst (nm.map V.str ++ kept.map V.str))
                refine ⟨u2, _, rfl, .inl (SqL.of upd_same), rfl, ?_, _, rfl, ?_⟩
                · rw [← List.map_append]; exact flat_strs _
                rw [← List.map_append] at su2 ⊢
                rw [if_pos rfl, inV_str]
                have s10 := sk2.trans su2
                generalize upd (upd H9 kp2 (.lst (kept.map V.str))) u2 (.lst ((nm ++ kept).map V.str)) = H10 at s10
                have fs := filt_snoc (L := nm ++ kept) hx'
                refine ite2 (fun c2 => ?_) (fun c2 => ?_)
                · refine ⟨_, rfl, _, s10 _ _ h9, ?_, ?_, ?_⟩
                  · rw [List.length_map]
                    have := List.length_filter_le (fun y => !decide (y ∈ nm ++ kept)) ((some26 nme').take j)
                    rw [List.length_take, some26_len] at this
                    omega
                  · rw [upd_same, fs, if_pos c2, List.map_append]
                    rfl
                  · intro a o e
                    rw [upd_ne (ne_of_none e hD3)]
                    exact s10 _ _ (s9 _ _ e)
                · refine ⟨?_, s9.trans s10⟩
                  rw [fs, if_neg c2, List.append_nil]
                  exact s10 _ _ h9
              · rintro H9 ⟨h9, s9⟩
                rw [List.length_map, List.take_length] at h9
                obtain ⟨x, hx, hxL⟩ := pig (some26 nme') (nm ++ kept) (some26_nd _) (by rw [some26_len]; omega)
                have hin : x ∈ (some26 nme').filter (fun y => !decide (y ∈ nm ++ kept)) := List.mem_filter.mpr ⟨hx, by rw [decide_eq_false hxL]; rfl⟩
                cases hf : (some26 nme').filter (fun y => !decide (y ∈ nm ++ kept)) with
                | nil => rw [hf] at hin; cases hin
                | cons z r =>
                  have hz : z ∈ (some26 nme').filter (fun y => !decide (y ∈ nm ++ kept)) := by rw [hf]; exact List.mem_cons_self
                  obtain ⟨z1, z2⟩ := List.mem_filter.mp hz
                  rw [hf] at h9
                  refine ⟨D3, _, 0, .str z, rfl, rfl, SqL.of h9, atI_nat (j := 0) rfl, z, some26_ok nok' z1, ?_, rfl, su'.trans s9⟩
                  intro q
                  rw [decide_eq_true q] at z2
                  cases z2
            · refine ⟨nme', nok', ?_, rfl, sk.trans su⟩
              exact of_decide_eq_false (Bool.eq_false_iff.mpr c)
          · rintro σ' H7 ⟨fin, fok, fno, rfl, s7⟩
            have hp7 := s7 _ _ hp6
            refine ⟨_, rfl, .inl ⟨rfl, _, SqL.of hp7⟩, _, rfl, p, _, _, rfl, rfl, hp7, ?_, ?_⟩
            · rw [List.length_map]
              omega
            · refine ⟨nm ++ [fin], _, _, _, _, rfl, ?_, ?_, hN.snoc fok fno, ?_, ?_⟩
              · rw [upd_same, List.map_append]
                rfl
              · rw [List.length_append, hl]
                rfl
              · obtain ⟨x, y, z, e, r1, r2, r3, r4, r5⟩ := B6.same s7
                exact ⟨x, y, z, by rw [upd_ne (Ne.symm npb)]; exact e, r1, r2, r3, r4, by omega⟩
              · intro a o na e
                have hap : a ≠ p := ne_of_none e hp
                rw [upd_ne hap]
                exact s7 _ _ (s6 _ _ (U5 _ _ na (U1 _ _ na e)))
  · rintro σ H1 ⟨nm, y4, y5, y6, y7, rfl, hp1, hl, hN, B1, U1⟩
    exact ⟨_, rfl, q p nm H1 hp hp1 (by omega) hN (B1.less (by omega)) U1⟩
end
end SH

set_option Elab.async false
set_option linter.all false
set_option maxRecDepth 100000
namespace SH
open PySem L2
abbrev sTree : Stmt := topS 46
theorem scTree : FnScope ["_law_bag_here", "_law_names_here", "_law_deep_here", "_law_way", "_law_sign"] ["_law_bag_here", "_law_names_here", "_law_deep_here"] (defScope sTree) := ⟨rfl, rfl, rfl, by decide +kernel, rfl, by decide +kernel, by decide +kernel⟩
/-- an expression at most n deep, of these names -/
def Ex.of (nm : List Str) : Nat → Ex → Prop
  | 0, _ => False
  | _ + 1, .num i => 0 ≤ i ∧ i < 1000000 ^ 5
  | _ + 1, .nam s => s ∈ nm
  | n + 1, .op _ l r => Ex.of nm n l ∧ Ex.of nm n r
theorem Ex.of_up {nm : List Str} : ∀ {n m : Nat} {e : Ex}, n ≤ m → Ex.of nm n e → Ex.of nm m e
  | 0, _, _, _, h => h.elim
  | n + 1, m + 1, .num _, _, h => h
  | n + 1, m + 1, .nam _, _, h => h
  | n + 1, m + 1, .op _ _ _, hm, h => ⟨Ex.of_up (by omega) h.1, Ex.of_up (by omega) h.2⟩
theorem Ex.of_ok {nm : List Str} (hn : ∀ s ∈ nm, nmOk s) : ∀ {n : Nat} {e : Ex}, Ex.of nm n e → Ex.ok n e
  | 0, _, h => h
  | n + 1, .num i, h => log_ok h.1 h.2
  | n + 1, .nam s, h => by
    have q := (hn s h).2.1
    rw [codes_len] at q
    show s.length ≤ 2000
    omega
  | n + 1, .op _ _ _, h => ⟨Ex.of_ok hn h.1, Ex.of_ok hn h.2⟩
def sgs : List Sg := [.add, .sub, .mul, .lt, .eq]
def tc : Nat → Nat
  | 0 => 0
  | n + 1 => 2 * tc n + 12
def spTree (n : Nat) : Sp := fun vs H Q _ => ∃ (b a : Addr) (nm : List Str) (k : Nat), vs = [.ref b, .ref a, .int n] ∧ H a = some (.lst (nm.map V.str)) ∧ a ≠ b ∧ nm.length ≤ 1000 ∧ (∀ s ∈ nm, nmOk s) ∧ 1 ≤ n ∧ Bag H b (k + tc n) ∧
  ∀ (v : V) (e : Ex) (H' : Hp), TrIn H' e v → Ex.of nm n e → Bag H' b k → But b H H' → Q v H'
theorem sgs_at {i : Int} (h0 : 0 ≤ i) (h1 : i < 5) : ∃ g : Sg, atI (sgs.map fun g => V.str g.txt) i = some (.str g.txt) := by
  obtain ⟨v, e, m⟩ := menu (xs := sgs.map fun g => V.str g.txt) h0 (by show i < 5; exact h1)
  obtain ⟨g, _, rfl⟩ := List.mem_map.mp m
  exact ⟨g, e⟩
theorem strOk_nm {s : Str} (h : nmOk s) : PyData.strOk s = true := by
  unfold PyData.strOk
  rw [Array.all_eq_true']
  intro x hx
  have := (h.2.2 x (Array.mem_toList_iff.mpr hx)).2
  exact decide_eq_true (by omega)
theorem dp_strs {K : PySem.W.Frag} {H : Hp} : ∀ l : List Str, DpAll K H (l.map V.str) (l.map PyData.str)
  | [] => .nil
  | _ :: r => .cons (.str _) (dp_strs r)
theorem lay_strs : ∀ {l : List Str}, (∀ s ∈ l, nmOk s) → PyData.canLayAll0 (l.map PyData.str) = true ∧ PyData.depthAll (l.map PyData.str) = 0
  | [], _ => ⟨rfl, rfl⟩
  | a :: r, h => by
    obtain ⟨h1, h2⟩ := lay_strs (l := r) fun s hs => h s (List.mem_cons_of_mem _ hs)
    refine ⟨?_, ?_⟩
    · show (PyData.strOk a && PyData.canLayAll0 (r.map PyData.str)) = true
      rw [strOk_nm (h a List.mem_cons_self), h1] <;> rfl
    · show max 0 (PyData.depthAll (r.map PyData.str)) = 0
      rw [h2] <;> rfl
theorem shaped_strs {l : List Str} (h : ∀ s ∈ l, nmOk s) : SeqAt.shaped (.list (l.map PyData.str)) = true := by
  obtain ⟨h1, h2⟩ := lay_strs h
  show (PyData.canLayAll0 (l.map PyData.str) && decide (PyData.depthAll (l.map PyData.str) + 1 ≤ 64)) = true
  rw [h1, h2] <;> rfl
theorem trNum {H : Hp} {p : Addr} {i : Int} (h : H p = some (.tup [.str "number", .int i])) : TrIn H (.num i) (.ref p) := ⟨p, rfl, h⟩
theorem trNam {H : Hp} {p : Addr} {i : Str} (h : H p = some (.tup [.str "name", .str i])) : TrIn H (.nam i) (.ref p) := ⟨p, rfl, h⟩
def spTrees (N : Nat) : Sp := fun vs H Q E => ∃ n, n ≤ N ∧ spTree n vs H Q E
section
variable {P : Program} {w : World} {K : PySem.W.Frag} {mg : Str → Option Value} {base : Heap}
theorem ok_tree {n : Nat} {f t u : Addr} {fd td ud : FuncData} (F : Fun K "_law_tree" "_law_tree" sTree f fd) (TK : Fk P w K mg base 1 "_law_take" t td ["_law_bag_here", "_law_many"] spTake) (NB : Fk P w K mg base 2 "_law_number" u ud ["_law_bag_here"] spNumber)
    (TR : Fk P w K mg base (n + 2) "_law_tree" f fd ["_law_bag_here", "_law_names_here", "_law_deep_here"] (spTree n)) (T : Bi mg) : FnOk P w K mg base CX0 (n + 3) f fd ["_law_bag_here", "_law_names_here", "_law_deep_here"] (spTree (n + 1)) := by
  refine F.ok scTree (fun vs H Q E h => ?_) (fun cdv A outer s H vs Q E hr h => ?_)
  · obtain ⟨b, a, nm, k, rfl, _⟩ := h
    rfl
  obtain ⟨b, a, nm, k, rfl, ha, nab, hnl, hnm, _, hB, q⟩ := h
  refine ⟨_, (pss_cons (ps_set (i := 3) scTree.nd rfl (Or.inl rfl) (pe_call TK.G (hr.mono (by omega)) (by rfl) TK.m TK.k TK.b .nil pass0 (pa_cons (pv 0) (pa_cons pe_int pa_nil))))
    (pss_cons (ps_if (PW.pt (pw_or (pt_cmpR op_eq (pv 2) pe_int (nomark _)) (pw_or1 (pt_cmpR op_eq (pv 3) pe_int (nomark _)))))
      (C8.pss_cut (ps_if (PW.pt (pw_and (pt_cmpR (op_neD hr.units) (pv 1) (pe_lst pa_nil) (nomark _)) (pw_and1 (pt_cmpR op_gt (pe_call TK.G (hr.mono (by omega)) (by rfl) TK.m TK.k TK.b .nil pass0 (pa_cons (pv 0) (pa_cons pe_int pa_nil))) pe_int (nomark _)))))
      (pss_one (ps_ret (pe_tup (pa_cons pe_str (pa_cons (pe_ix ix_list (pv 1) (pe_call TK.G (hr.mono (by omega)) (by rfl) TK.m TK.k TK.b .nil pass0 (pa_cons (pv 0) (pa_cons (pe_callB call_len_seq (by rfl) T.len (by decide +kernel) (pa_cons (pv 1) pa_nil)) pa_nil))) (fun _ _ => rfl)) pa_nil)))))
      pss_nil)
    (pss_one (ps_ret (pe_tup (pa_cons pe_str (pa_cons (pe_call NB.G (hr.mono (by omega)) (by rfl) NB.m NB.k NB.b .nil pass0 (pa_cons (pv 0) pa_nil)) pa_nil))))))
      pss_nil)
    (pss_cons (ps_set (i := 4) scTree.nd rfl (Or.inl rfl) (pe_ix ix_list (pe_lst (pa_cons pe_str (pa_cons pe_str (pa_cons pe_str (pa_cons pe_str (pa_cons pe_str pa_nil)))))) (pe_call TK.G (hr.mono (by omega)) (by rfl) TK.m TK.k TK.b .nil pass0 (pa_cons (pv 0) (pa_cons pe_int pa_nil))) (fun _ _ => rfl)))
    (pss_one (ps_ret (pe_tup (pa_cons (pv 4) (pa_cons (pe_call TR.G hr (by rfl) TR.m TR.k TR.b .nil pass0 (pa_cons (pv 0) (pa_cons (pv 1) (pa_cons (pe_op op_sub (pv 2) pe_int) pa_nil)))) (pa_cons (pe_call TR.G hr (by rfl) TR.m TR.k TR.b .nil pass0 (pa_cons (pv 0) (pa_cons (pv 1) (pa_cons (pe_op op_sub (pv 2) pe_int) pa_nil)))) pa_nil))))))))), ?_⟩
  have hs : sizeLine = 16777216 := by decide
  have htc : tc (n + 1) = 2 * tc n + 12 := rfl
  refine ⟨_, rfl, b, 5, k + 2 * tc n + 11, rfl, by decide, by decide, hB, fun d1 H1 a1 a2 B1 U1 => ?_⟩
  have ha1 := U1 _ _ nab ha
  refine ⟨_, rfl, rfl, _, rfl, ?_⟩
  refine ite2 (fun c => ?leafA) (fun c => ⟨_, rfl, rfl, _, rfl, ite2 (fun c2 => ?leafB) (fun c2 => ?rec)⟩)
  case rec =>
    have hn1 : 1 ≤ n := by
      have c' : ¬ (V.int ((n + 1 : Nat) : Int) = V.int 1) := of_decide_eq_false (Bool.eq_false_iff.mpr c)
      rcases Nat.eq_zero_or_pos n with z | z
      · exact absurd (by rw [z]; rfl) c'
      · exact z
    refine ⟨(by show 5 ≤ sizeLine; decide), fun l hl => ?_⟩
    refine ⟨_, rfl, b, 5, k + 2 * tc n + 10, rfl, by decide, by decide, B1.same (same_new hl _), fun d2 H2 b1 b2 B2 U2 => ?_⟩
    obtain ⟨g, eg⟩ := sgs_at b1 b2
    have nlb : l ≠ b := fun e => by obtain ⟨ys, hy⟩ := B1.lst; rw [e, hy] at hl; cases hl
    have hl2 : H2 l = some (.lst (sgs.map fun g => V.str g.txt)) := U2 _ _ nlb upd_same
    refine ⟨l, _, _, _, rfl, rfl, SqL.of hl2, eg, ?_⟩
    have U12 : But b H H2 := U1.trans ((But.new hl _).trans U2)
    have ha2 := U12 _ _ nab ha
    have en : ((n + 1 : Nat) : Int) - 1 = (n : Int) := by omega
    refine ⟨_, rfl, _, rfl, _, rfl, _, rfl, _, _, rfl, rfl, b, a, nm, k + tc n, (by show [V.ref b, V.ref a, V.int (((n + 1 : Nat) : Int) - 1)] = _; rw [en]), ha2, nab, hnl, hnm, hn1, B2.less (by omega), fun v1 e1 H3 t1 o1 B3 U3 => ?_⟩
    have ha3 := U3 _ _ nab ha2
    refine ⟨_, rfl, _, rfl, _, rfl, _, _, rfl, rfl, b, a, nm, k, (by show [V.ref b, V.ref a, V.int (((n + 1 : Nat) : Int) - 1)] = _; rw [en]), ha3, nab, hnl, hnm, hn1, B3, fun v2 e2 H4 t2 o2 B4 U4 => ?_⟩
    refine ⟨(by show 3 ≤ sizeLine; decide), fun p hp => ?_⟩
    obtain ⟨ys, hys⟩ := B3.lst
    have t1' : TrIn H4 e1 v1 := t1.but hys U4
    refine q (.ref p) (.op g e1 e2) _ ⟨p, v1, v2, rfl, upd_same, t1'.same (same_new hp _), t2.same (same_new hp _)⟩ ⟨o1, o2⟩ (B4.same (same_new hp _)) (U12.trans (U3.trans (U4.trans (But.new hp _))))
  all_goals
    refine ⟨fun σ' H' => σ' = [some (.ref b), some (.ref a), some (.int ((n + 1 : Nat) : Int)), some (.int d1), none] ∧ Bag H' b (k + 8) ∧ But b H H', ?_, ?_⟩
    · refine ⟨_, rfl, Nat.zero_le _, fun l hl => ?_⟩
      have sl := same_new hl (.lst [])
      refine ⟨.list (nm.map PyData.str), .list [], .lst (SqL.of (sl _ _ ha1)) (dp_strs nm), .lst (SqL.of upd_same) .nil, shaped_strs hnm, rfl, _, rfl, ?_⟩
      cases hnm' : nm with
      | nil => exact ⟨rfl, (B1.same sl).less (by omega), U1.trans (But.of sl)⟩
      | cons z r =>
        have el : (nm.length : Int) = (z :: r).length := by rw [hnm']
        refine ⟨_, rfl, b, 3, k + 2 * tc n + 10, rfl, by decide, by decide, B1.same sl, fun d2 H2 b1 b2 B2 U2 => ?_⟩
        have U12 : But b H H2 := U1.trans ((But.of sl).trans U2)
        have ha2 : H2 a = some (.lst (nm.map V.str)) := U12 _ _ nab ha
        refine ⟨_, _, rfl, rfl, _, rfl, ?_⟩
        refine ite2 (fun c3 => ?_) (fun c3 => ?_)
        · refine ⟨_, rfl, _, rfl, _, rfl, a, _, rfl, .inl (SqL.of ha2), b, _, k + 2 * tc n + 9, rfl, ?_, ?_, B2, fun d3 H3 e1 e2 B3 U3 => ?_⟩
          · rw [List.length_map, el, List.length_cons]; omega
          · rw [List.length_map]; omega
          · rw [List.length_map] at e2
            obtain ⟨x, ex, hx⟩ := menuS (ns := nm) e1 e2
            refine ⟨a, _, _, _, rfl, rfl, SqL.of (U3 _ _ nab ha2), ex, (by show 2 ≤ sizeLine; decide), fun p hp => ?_⟩
            exact q (.ref p) (.nam x) _ (trNam upd_same) hx ((B3.same (same_new hp _)).less (by omega)) (U12.trans (U3.trans (But.new hp _)))
        · exact ⟨rfl, B2.less (by omega), U12⟩
    · rintro σ' H2 ⟨rfl, B2, U2⟩
      refine ⟨_, rfl, b, k, rfl, B2, fun i H3 i0 i1 B3 U3 => ?_⟩
      refine ⟨(by show 2 ≤ sizeLine; decide), fun p hp => ?_⟩
      exact q (.ref p) (.num i) _ (trNum upd_same) ⟨i0, i1⟩ (B3.same (same_new hp _)) (U2.trans (U3.trans (But.new hp _)))
theorem tree_none {f : Addr} {fd : FuncData} : FnOk P w K mg base CX0 2 f fd ["_law_bag_here", "_law_names_here", "_law_deep_here"] (spTree 0) := by
  have no : ∀ vs H Q E, ¬ spTree 0 vs H Q E := fun vs H Q E h => by
    obtain ⟨_, _, _, _, _, _, _, _, _, h1, _⟩ := h
    omega
  exact ⟨fun vs H Q E h => absurd h (no vs H Q E), fun A outer s H args us vs Q E _ _ _ _ h => absurd h (no vs H Q E)⟩
theorem trees {f t u : Addr} {fd td ud : FuncData} (F : Fun K "_law_tree" "_law_tree" sTree f fd) (m : mg "_law_tree" = some (.ref f)) (bd : Binds K fd ["_law_bag_here", "_law_names_here", "_law_deep_here"] []) (TK : Fk P w K mg base 1 "_law_take" t td ["_law_bag_here", "_law_many"] spTake)
    (NB : Fk P w K mg base 2 "_law_number" u ud ["_law_bag_here"] spNumber) (T : Bi mg) : ∀ n : Nat, FnOk P w K mg base CX0 (n + 2) f fd ["_law_bag_here", "_law_names_here", "_law_deep_here"] (spTree n)
  | 0 => tree_none
  | n + 1 => ok_tree F TK NB ⟨trees F m bd TK NB T n, m, F.kp, bd⟩ T
theorem trees_all {f t u : Addr} {fd td ud : FuncData} (F : Fun K "_law_tree" "_law_tree" sTree f fd) (m : mg "_law_tree" = some (.ref f)) (bd : Binds K fd ["_law_bag_here", "_law_names_here", "_law_deep_here"] []) (TK : Fk P w K mg base 1 "_law_take" t td ["_law_bag_here", "_law_many"] spTake)
    (NB : Fk P w K mg base 2 "_law_number" u ud ["_law_bag_here"] spNumber) (T : Bi mg) (N : Nat) : FnOk P w K mg base CX0 (N + 2) f fd ["_law_bag_here", "_law_names_here", "_law_deep_here"] (spTrees N) := by
  refine ⟨fun vs H Q E h => ?_, fun A outer s H args us vs Q E hr he hb hv h => ?_⟩
  · obtain ⟨n, hn, h⟩ := h
    exact (trees (P := P) (w := w) (base := base) F m bd TK NB T n).len vs H Q E h
  · obtain ⟨n, hn, h⟩ := h
    exact (trees (P := P) (w := w) (base := base) F m bd TK NB T n).run A outer s H args us vs Q E (hr.mono (by omega)) he hb hv h
end
end SH

set_option Elab.async false
set_option linter.all false
set_option maxRecDepth 100000
namespace SH
open PySem L2
/-! ### rows and works -/
def NmOk (s : Str) : Prop := nmOk s ∧ s ∉ kept
def Ex.fine : Nat → Ex → Prop
  | 0, _ => False
  | _ + 1, .num i => 0 ≤ i ∧ i < 1000000 ^ 5
  | _ + 1, .nam s => NmOk s
  | n + 1, .op _ l r => Ex.fine n l ∧ Ex.fine n r
theorem Ex.fine_up : ∀ {n m : Nat} {e : Ex}, n ≤ m → Ex.fine n e → Ex.fine m e
  | 0, _, _, _, h => h.elim
  | n + 1, m + 1, .num _, _, h => h
  | n + 1, m + 1, .nam _, _, h => h
  | n + 1, m + 1, .op _ _ _, hm, h => ⟨Ex.fine_up (by omega) h.1, Ex.fine_up (by omega) h.2⟩
theorem Ex.of_fine {nm : List Str} (hn : ∀ s ∈ nm, NmOk s) : ∀ {n : Nat} {e : Ex}, Ex.of nm n e → Ex.fine n e
  | 0, _, h => h
  | n + 1, .num i, h => h
  | n + 1, .nam s, h => hn s h
  | n + 1, .op _ _ _, h => ⟨Ex.of_fine hn h.1, Ex.of_fine hn h.2⟩
theorem Ex.fine_ok : ∀ {n : Nat} {e : Ex}, Ex.fine n e → Ex.ok n e
  | 0, _, h => h
  | n + 1, .num i, h => log_ok h.1 h.2
  | n + 1, .nam s, h => by
    have q := h.1.2.1
    rw [codes_len] at q
    show s.length ≤ 2000
    omega
  | n + 1, .op _ _ _, h => ⟨Ex.fine_ok h.1, Ex.fine_ok h.2⟩
inductive Rs where
  | nil
  | put (x : Str) (e : Ex) (t : Rs)
  | go (w : Bool) (x f : Str) (es : List Ex) (t : Rs)
  | wait (x y : Str) (e : Option Ex) (t : Rs)
  | iff (e : Ex) (a b t : Rs)
  | give (w : Bool) (e : Ex) (t : Rs)
def goW : Bool → Str
  | false => "go"
  | true => "call"
def giveW : Bool → Str
  | false => "give"
  | true => "fail"
def TrsIn (H : Hp) : List Ex → List V → Prop
  | [], vs => vs = []
  | e :: es, vs => ∃ v r, vs = v :: r ∧ TrIn H e v ∧ TrsIn H es r
def OptIn (H : Hp) : Option Ex → V → Prop
  | none, v => v = .non
  | some e, v => TrIn H e v
def RsIn (H : Hp) : Rs → List V → Prop
  | .nil, vs => vs = []
  | .put x e t, vs => ∃ a v r, vs = .ref a :: r ∧ H a = some (.tup [.str "put", .str x, v]) ∧ TrIn H e v ∧ RsIn H t r
  | .go w x f es t, vs => ∃ a p ws r, vs = .ref a :: r ∧ H a = some (.tup [.str (goW w), .str x, .str f, .ref p]) ∧ H p = some (.tup ws) ∧ TrsIn H es ws ∧ RsIn H t r
  | .wait x y oe t, vs => ∃ a v r, vs = .ref a :: r ∧ H a = some (.tup [.str "wait", .str x, .str y, v]) ∧ OptIn H oe v ∧ RsIn H t r
  | .iff e A B t, vs => ∃ a v p xs p' ys r, vs = .ref a :: r ∧ H a = some (.tup [.str "if", v, .ref p, .ref p']) ∧ TrIn H e v ∧ H p = some (.tup xs) ∧ RsIn H A xs ∧ H p' = some (.tup ys) ∧ RsIn H B ys ∧ RsIn H t r
  | .give w e t, vs => ∃ a v r, vs = .ref a :: r ∧ H a = some (.tup [.str (giveW w), v]) ∧ TrIn H e v ∧ RsIn H t r
def Rs.count : Rs → Nat
  | .nil => 0
  | .put _ _ t => 1 + t.count
  | .go _ _ _ _ t => 1 + t.count
  | .wait _ _ _ t => 1 + t.count
  | .iff _ a b t => 1 + a.count + b.count + t.count
  | .give _ _ t => 1 + t.count
def Rs.rc : Rs → Nat
  | .nil => 0
  | .iff _ a b _ => 1 + a.count + b.count
  | _ => 1
def Rs.tl : Rs → Rs
  | .nil => .nil
  | .put _ _ t => t
  | .go _ _ _ _ t => t
  | .wait _ _ _ t => t
  | .iff _ _ _ t => t
  | .give _ _ t => t
theorem Rs.count_eq (r : Rs) : r.count = r.rc + r.tl.count := by cases r <;> rfl
/-- the goes and calls, from the first on -/
def Rs.starts : Rs → List (Str × Nat)
  | .nil => []
  | .put _ _ t => t.starts
  | .go _ _ f es t => (f, es.length) :: t.starts
  | .wait _ _ _ t => t.starts
  | .iff _ a b t => a.starts ++ b.starts ++ t.starts
  | .give _ _ t => t.starts
def Rs.ok : Nat → Rs → Prop
  | _, .nil => True
  | n, .put x e t => NmOk x ∧ Ex.fine 6 e ∧ Rs.ok n t
  | n, .go _ x f es t => NmOk x ∧ NmOk f ∧ es.length ≤ 4 ∧ (∀ e ∈ es, Ex.fine 6 e) ∧ Rs.ok n t
  | n, .wait x y oe t => NmOk x ∧ NmOk y ∧ (∀ e, oe = some e → Ex.fine 6 e) ∧ Rs.ok n t
  | n, .iff e a b t => 1 ≤ n ∧ Ex.fine 6 e ∧ Rs.ok (n - 1) a ∧ Rs.ok (n - 1) b ∧ Rs.ok n t
  | n, .give _ e t => Ex.fine 6 e ∧ Rs.ok n t
theorem Rs.ok_tl {n : Nat} : ∀ {r : Rs}, Rs.ok n r → Rs.ok n r.tl
  | .nil, _ => trivial
  | .put _ _ _, h => h.2.2
  | .go _ _ _ _ _, h => h.2.2.2.2
  | .wait _ _ _ _, h => h.2.2.2
  | .iff _ _ _ _, h => h.2.2.2.2
  | .give _ _ _, h => h.2
theorem RsIn.tl {H : Hp} : ∀ {r : Rs} {v : V} {vs : List V}, RsIn H r (v :: vs) → RsIn H r.tl vs
  | .nil, _, _, h => by cases h
  | .put _ _ _, _, _, ⟨a, v, r, e, _, _, h⟩ => by cases e; exact h
  | .go _ _ _ _ _, _, _, ⟨a, p, ws, r, e, _, _, _, h⟩ => by cases e; exact h
  | .wait _ _ _ _, _, _, ⟨a, v, r, e, _, _, h⟩ => by cases e; exact h
  | .iff _ _ _ _, _, _, ⟨a, v, p, xs, p', ys, r, e, _, _, _, _, _, _, h⟩ => by cases e; exact h
  | .give _ _ _, _, _, ⟨a, v, r, e, _, _, h⟩ => by cases e; exact h
theorem Rs.rc_pos {H : Hp} : ∀ {r : Rs} {v : V} {vs : List V}, RsIn H r (v :: vs) → 1 ≤ r.rc
  | .nil, _, _, h => by cases h
  | .put _ _ _, _, _, _ => Nat.le_refl _
  | .go _ _ _ _ _, _, _, _ => Nat.le_refl _
  | .wait _ _ _ _, _, _, _ => Nat.le_refl _
  | .iff _ a b _, _, _, _ => by show 1 ≤ 1 + a.count + b.count; omega
  | .give _ _ _, _, _, _ => Nat.le_refl _
/-! ### a name of the module that holds a number -/
def Gi (mg : Str → Option Value) (x : Str) (i : Int) : Prop := ∃ t, mg x = some (.int i t)
theorem pe_gi {X : Cx} {x : Str} {i : Int} {pos : Pos} (h : Gi X.mg x i) (hg : Gl X x := by rfl) (hd : (x == ("__debug__" : Str)) = false := by decide) : PE X (.Name x pos) (tC (.int i)) := by
  obtain ⟨t, h⟩ := h
  exact pe_glob hg h ⟨t, rfl⟩ hd
def signsL : List Str := ["+", "-", "*", "<", "=="]
structure Gf (K : PySem.W.Frag) (mg : Str → Option Value) : Prop where
  words : ∃ a, mg "WORDS" = some (.ref a) ∧ ∀ H, SqT K H a (kept.map V.str)
  signs : ∃ a, mg "SIGNS" = some (.ref a) ∧ ∀ H, SqT K H a (signsL.map V.str)
  letters : ∃ t, mg "LETTERS" = some (.str letters t)
  rows : Gi mg "MOST_ROWS" 40
  names : Gi mg "MOST_NAMES" 4
  exprs : Gi mg "MOST_EXPRESSIONS" 4
  ifs : Gi mg "MOST_IFS" 3
  lets : Gi mg "MOST_LETTERS" 8
  room : Gi mg "MOST_ROOM" 1000
  num : Gi mg "MOST_NUMBER" (1000000 ^ 5 - 1)
  norows : Gi mg "NO_ROWS" (-1)
abbrev sTupOf : Stmt := topS 27
abbrev sWhole : Stmt := topS 28
abbrev sWithin : Stmt := topS 29
abbrev sIsName : Stmt := topS 30
abbrev sLeaf : Stmt := topS 33
abbrev sIsEx : Stmt := topS 32
theorem scTupOf : FnScope ["thing", "many"] ["thing", "many"] (defScope sTupOf) := ⟨rfl, rfl, rfl, by decide +kernel, rfl, by decide +kernel, by decide +kernel⟩
theorem scWhole : FnScope ["thing"] ["thing"] (defScope sWhole) := ⟨rfl, rfl, rfl, by decide +kernel, rfl, by decide +kernel, by decide +kernel⟩
theorem scWithin : FnScope ["thing", "most"] ["thing", "most"] (defScope sWithin) := ⟨rfl, rfl, rfl, by decide +kernel, rfl, by decide +kernel, by decide +kernel⟩
theorem scIsName : FnScope ["thing", "letter"] ["thing"] (defScope sIsName) := ⟨rfl, rfl, rfl, by decide +kernel, rfl, by decide +kernel, by decide +kernel⟩
theorem scLeaf : FnScope ["pair"] ["pair"] (defScope sLeaf) := ⟨rfl, rfl, rfl, by decide +kernel, rfl, by decide +kernel, by decide +kernel⟩
theorem scIsEx : FnScope ["thing", "deepest"] ["thing", "deepest"] (defScope sIsEx) := ⟨rfl, rfl, rfl, by decide +kernel, rfl, by decide +kernel, by decide +kernel⟩
def spTupOf : Sp := fun vs H Q _ => ∃ (a : Addr) (xs : List V) (n : Int), vs = [.ref a, .int n] ∧ H a = some (.tup xs) ∧ Q (.bl (decide (V.int (xs.length : Nat) = V.int n))) H
def spWhole : Sp := fun vs H Q _ => ∃ i : Int, vs = [.int i] ∧ Q (.bl true) H
def spWithin : Sp := fun vs H Q _ => ∃ i m : Int, vs = [.int i, .int m] ∧ 0 ≤ i ∧ i ≤ m ∧ Q (.bl true) H
def spIsName : Sp := fun vs H Q _ => ∃ s : Str, vs = [.str s] ∧ NmOk s ∧ ∀ H', Same H H' → Q (.bl true) H'
def Ex.isLeaf : Ex → Bool
  | .op _ _ _ => false
  | _ => true
def spLeaf : Sp := fun vs H Q _ => ∃ (v : V) (e : Ex), vs = [v] ∧ TrIn H e v ∧ e.isLeaf = true ∧ Ex.fine 1 e ∧ ∀ H', Same H H' → Q (.bl true) H'
def spIsEx (n : Nat) : Sp := fun vs H Q _ => ∃ (v : V) (e : Ex), vs = [v, .int n] ∧ TrIn H e v ∧ Ex.fine n e ∧ ∀ H', Same H H' → Q (.bl true) H'
section
variable {P : Program} {w : World} {K : PySem.W.Frag} {mg : Str → Option Value} {base : Heap}
/-- a def with defaults, no error leaves it -/
theorem ok0 {x qual : Str} {st : Stmt} {dvs : List V} {kws : List (Str × V)} {f : Addr} {fd : FuncData} {N ps : List Str} {k : Nat} {sp : Sp} (F : FunD K x qual (defArgs st) (defBody st) (defScope st) dvs kws f fd) (S : FnScope N ps (defScope st)) (len : ∀ vs H Q E, sp vs H Q E → vs.length = ps.length)
    (hb : ∀ (cdv : Value) (A : Around) (outer : List Env) (s : Shared) (H : Hp) (vs : List V) (Q : VK) (E : XK), Room k (A.deeper (PyProof.Rows.envOfC qual (defScope st) s.heap.objs.size f cdv)) → sp vs H Q E →
      ∃ t, PSs (cxOf CX0 P w K mg base N qual (defScope st) f cdv A outer s H E).nox (defBody st) t ∧ t { nx := fun _ H' => Q .non H', rt := Q } (L2.start N vs) H) : FnOk P w K mg base CX0 (k + 1) f fd ps sp :=
  F.ok S len fun cdv A outer s H vs Q E hr h => by
    obtain ⟨t, h1, h2⟩ := hb cdv A outer s H vs Q E hr h
    exact ⟨t, h1.nox, h2⟩
theorem ok_tupOf {f : Addr} {fd : FuncData} (F : Fun K "is_tuple_of" "is_tuple_of" sTupOf f fd) (T : Bi mg) (mt : mg "tuple" = none) : FnOk P w K mg base CX0 1 f fd ["thing", "many"] spTupOf := by
  refine F.ok scTupOf (fun vs H Q E h => ?_) (fun cdv A outer s H vs Q E hr h => ?_)
  · obtain ⟨a, xs, n, rfl, _⟩ := h
    rfl
  obtain ⟨a, xs, n, rfl, ha, q⟩ := h
  refine ⟨_, (pss_one (ps_ret (pe_and (pe_callB call_isi (by rfl) T.isinstance (by decide +kernel) (pa_cons (pv 0) (pa_cons (pe_bltn (v := .ty "tuple") (by rfl) mt (by decide +kernel) rfl) pa_nil))) (pe_one (pe_cmpR op_eq (pe_callB call_len_seq (by rfl) T.len (by decide +kernel) (pa_cons (pv 0) pa_nil)) (pv 1) (nomark _)))))), ?_⟩
  refine ⟨_, rfl, _, _, _, _, true, rfl, .ty "tuple", .base (.tup ha), kit_ty (by decide +kernel), _, rfl, ?_⟩
  exact ⟨_, rfl, a, _, rfl, .inr (SqT.of ha), _, rfl, rfl, q⟩
theorem ok_whole {f : Addr} {fd : FuncData} (F : Fun K "is_whole" "is_whole" sWhole f fd) (T : Bi mg) (mt : mg "bool" = none) : FnOk P w K mg base CX0 1 f fd ["thing"] spWhole := by
  refine F.ok scWhole (fun vs H Q E h => ?_) (fun cdv A outer s H vs Q E hr h => ?_)
  · obtain ⟨i, rfl, _⟩ := h
    rfl
  obtain ⟨i, rfl, q⟩ := h
  refine ⟨_, (pss_one (ps_ret (pe_and (pe_callB call_isi (by rfl) T.isinstance (by decide +kernel) (pa_cons (pv 0) (pa_cons (pe_bltn (v := .ty "int") (by rfl) T.int (by decide +kernel) rfl) pa_nil))) (pe_one (pe_not (pe_callB call_isi (by rfl) T.isinstance (by decide +kernel) (pa_cons (pv 0) (pa_cons (pe_bltn (v := .ty "bool") (by rfl) mt (by decide +kernel) rfl) pa_nil)))))))), ?_⟩
  refine ⟨_, rfl, _, _, _, _, true, rfl, .ty "int", .base (.int i), kit_ty (by decide +kernel), _, rfl, ?_⟩
  exact ⟨_, rfl, _, _, _, _, false, rfl, .ty "bool", .base (.int i), kit_ty (by decide +kernel), _, rfl, q⟩
theorem ok_within {f g : Addr} {fd gd : FuncData} (F : Fun K "is_whole_within" "is_whole_within" sWithin f fd) (WH : Fk P w K mg base 1 "is_whole" g gd ["thing"] spWhole) : FnOk P w K mg base CX0 2 f fd ["thing", "most"] spWithin := by
  refine F.ok scWithin (fun vs H Q E h => ?_) (fun cdv A outer s H vs Q E hr h => ?_)
  · obtain ⟨i, m, rfl, _⟩ := h
    rfl
  obtain ⟨i, m, rfl, h0, h1, q⟩ := h
  refine ⟨_, (pss_one (ps_ret (pe_and (pe_call WH.G (hr.mono (by omega)) (by rfl) WH.m WH.k WH.b .nil pass0 (pa_cons (pv 0) pa_nil)) (pe_one (pe_chain op_le op_le pe_int (pv 0) (pv 1)))))), ?_⟩
  refine ⟨_, rfl, i, rfl, _, rfl, ?_⟩
  refine ⟨_, rfl, _, _, rfl, rfl, _, rfl, ?_⟩
  rw [decide_eq_true h0]
  refine ⟨_, rfl, _, _, rfl, rfl, ?_⟩
  show Q (.bl (decide (i ≤ m))) H
  rw [decide_eq_true h1]
  exact q
theorem ok_isName {f : Addr} {fd : FuncData} (F : Fun K "is_name" "is_name" sIsName f fd) (T : Bi mg) (G : Gf K mg) : FnOk P w K mg base CX0 1 f fd ["thing"] spIsName := by
  refine F.ok scIsName (fun vs H Q E h => ?_) (fun cdv A outer s H vs Q E hr h => ?_)
  · obtain ⟨i, rfl, _⟩ := h
    rfl
  obtain ⟨z, rfl, ⟨⟨n1, n2, n3⟩, nk⟩, q⟩ := h
  obtain ⟨aW, gW, sW⟩ := G.words
  obtain ⟨tL, gLt⟩ := G.letters
  refine ⟨_, (pss_cons (ps_if (PW.pt (pw_or (pt_not (pt_val (pe_callB call_isi (by rfl) T.isinstance (by decide +kernel) (pa_cons (pv 0) (pa_cons (pe_bltn (v := .ty "str") (by rfl) T.str (by decide +kernel) rfl) pa_nil))))) (pw_or1 (pt_not (pt_chain op_le op_le pe_int (pe_callB call_len (by rfl) T.len (by decide +kernel) (pa_cons (pv 0) pa_nil)) (pe_gi G.lets))))))
      (pss_one (ps_ret pe_bl))
      pss_nil)
    (pss_one (ps_ret (pe_and (pe_cmpR op_notIn_seq (pv 0) (pe_glob (v := .ref aW) rfl gW rfl) rfl) (pe_one (pe_callB (cr_all rfl) (by rfl) T.all (by decide +kernel) (pa_cons (pe_lc (own := [("letter", 1)]) (g := gName 1) (tt := tYes) (by rfl) scIsName.nd (pi_str (pv 0)) (blkOk_by (own := [("letter", 1)]) (N := ["thing", "letter"]) (sc := defScope sIsName) (by decide +kernel)) (fun _ _ _ _ _ => pg_name (i := 1) scIsName.nd rfl (Or.inl rfl)) (fun _ _ _ _ _ => pts_nil) (fun _ _ _ _ _ => (pe_cmpR op_in_sign (pv 1) (pe_glob (v := .str letters) rfl gLt ⟨_, rfl⟩) rfl))) pa_nil))))))), ?_⟩
  rw [codes_len] at n1 n2
  have hs : sizeLine = 16777216 := by decide
  refine ⟨_, rfl, _, _, _, _, true, rfl, .ty "str", .base (.str z), kit_ty (by decide +kernel), _, rfl, ?_⟩
  refine ⟨_, rfl, _, z.length, rfl, ⟨by omega, rfl⟩, _, _, rfl, rfl, _, rfl, ?_⟩
  rw [decide_eq_true (by omega : (1 : Int) ≤ (z.length : Nat))]
  refine ⟨_, _, rfl, rfl, _, rfl, ?_⟩
  rw [decide_eq_true (by omega : ((z.length : Nat) : Int) ≤ 8)]
  refine ⟨_, rfl, aW, _, rfl, .inr (sW _), rfl, flat_strs kept, _, rfl, ?_⟩
  rw [if_pos rfl, inV_str, decide_eq_false nk]
  refine ⟨_, rfl, z, rfl, ?_⟩
  intro D hD
  refine lc_it walk_str (fun j H' => H' D = some (.lst ((List.replicate j true).map V.bl)) ∧ Same H H') ⟨upd_same, same_new hD _⟩ (fun _ _ _ _ => trivial) ?_ ?_
  · rintro j x H1 H2 hj ⟨hD1, s1⟩ ⟨rfl, c, hc, rfl⟩
    refine ⟨rfl, ?_⟩
    refine ⟨_, rfl, c, letters, rfl, rfl, ?_⟩
    have hc' : c ∈ letters.cps.toList := by
      have hm : c ∈ codes z := by
        unfold codes
        exact List.mem_of_getElem? (by rw [Array.getElem?_toList]; exact hc)
      have hr' := n3 c hm
      have all : ∀ c : Fin 123, 97 ≤ c.val → c.val ∈ letters.cps.toList := by decide +kernel
      exact all ⟨c, by omega⟩ hr'.1
    refine ⟨_, hD1, ?_, ?_, ?_⟩
    · rw [List.length_map, List.length_replicate]
      have : j < z.length := hj
      omega
    · rw [upd_same, decide_eq_true hc', List.replicate_succ', List.map_append]
      rfl
    · intro x o zz
      rw [upd_ne (ne_of_none zz hD)]
      exact s1 _ _ zz
  · rintro H1 ⟨hD1, s1⟩
    refine ⟨D, _, rfl, SqL.of hD1, ?_⟩
    have : (List.replicate z.cps.size true).all id = true := by
      rw [List.all_eq_true]
      intro x hx
      exact (List.mem_replicate.mp hx).2
    rw [this]
    exact q H1 s1
theorem ok_leaf {f g h : Addr} {fd gd hd : FuncData} (F : Fun K "is_leaf" "is_leaf" sLeaf f fd) (WI : Fk P w K mg base 2 "is_whole_within" g gd ["thing", "most"] spWithin) (IN : Fk P w K mg base 1 "is_name" h hd ["thing"] spIsName) (G : Gf K mg) : FnOk P w K mg base CX0 3 f fd ["pair"] spLeaf := by
  refine F.ok scLeaf (fun vs H Q E h => ?_) (fun cdv A outer s H vs Q E hr h => ?_)
  · obtain ⟨v, e, rfl, _⟩ := h
    rfl
  obtain ⟨v, e, rfl, hT, hlf, hf, q⟩ := h
  refine ⟨_, (pss_cons (ps_if (pt_cmpR op_eq (pe_ix ix_tup (pv 0) pe_int (fun _ _ => rfl)) pe_str (nomark _))
      (pss_one (ps_ret (pe_call WI.G (hr.mono (by omega)) (by rfl) WI.m WI.k WI.b .nil pass0 (pa_cons (pe_ix ix_tup (pv 0) pe_int (fun _ _ => rfl)) (pa_cons (pe_gi G.num) pa_nil)))))
      pss_nil)
    (pss_one (ps_ret (pe_and (pe_cmpR op_eq (pe_ix ix_tup (pv 0) pe_int (fun _ _ => rfl)) pe_str (nomark _)) (pe_one (pe_call IN.G (hr.mono (by omega)) (by rfl) IN.m IN.k IN.b .nil pass0 (pa_cons (pe_ix ix_tup (pv 0) pe_int (fun _ _ => rfl)) pa_nil))))))), ?_⟩
  cases e with
  | num i =>
    obtain ⟨a, rfl, ha⟩ := hT
    refine ⟨_, rfl, a, _, 0, _, rfl, rfl, SqT.of ha, atI_nat rfl, rfl, _, rfl, ?_⟩
    rw [decide_eq_true rfl]
    refine iteT ⟨_, rfl, a, _, 1, _, rfl, rfl, SqT.of ha, atI_nat (j := 1) rfl, i, _, rfl, hf.1, ?_, q H (Same.refl H)⟩
    have := hf.2
    omega
  | nam z =>
    obtain ⟨a, rfl, ha⟩ := hT
    refine ⟨_, rfl, a, _, 0, _, rfl, rfl, SqT.of ha, atI_nat rfl, rfl, _, rfl, ?_⟩
    rw [decide_eq_false (by intro z; have := V.str.inj z; revert this; decide +kernel)]
    refine iteF ?_
    refine ⟨_, rfl, a, _, 0, _, rfl, rfl, SqT.of ha, atI_nat rfl, rfl, _, rfl, ?_⟩
    rw [decide_eq_true rfl]
    refine iteT ⟨_, rfl, a, _, 1, _, rfl, rfl, SqT.of ha, atI_nat (j := 1) rfl, z, rfl, hf, q⟩
  | op g l r => cases hlf
theorem ok_isEx {n : Nat} {f t l : Addr} {fd td ld : FuncData} (F : FunD K "is_expression" "is_expression" (defArgs sIsEx) (defBody sIsEx) (defScope sIsEx) [.int 6] [] f fd) (TO : Fk P w K mg base 1 "is_tuple_of" t td ["thing", "many"] spTupOf) (LF : Fk P w K mg base 3 "is_leaf" l ld ["pair"] spLeaf)
    (IE : Fk P w K mg base (n + 3) "is_expression" f fd ["thing", "deepest"] (spIsEx n)) (G : Gf K mg) : FnOk P w K mg base CX0 (n + 4) f fd ["thing", "deepest"] (spIsEx (n + 1)) := by
  refine ok0 F scIsEx (fun vs H Q E h => ?_) (fun cdv A outer s H vs Q E hr h => ?_)
  · obtain ⟨v, e, rfl, _⟩ := h
    rfl
  obtain ⟨v, e, rfl, hT, hf, q⟩ := h
  obtain ⟨aS, gS, sS⟩ := G.signs
  refine ⟨_, (pss_cons (ps_if (pt_val (pe_call TO.G (hr.mono (by omega)) (by rfl) TO.m TO.k TO.b .nil pass0 (pa_cons (pv 0) (pa_cons pe_int pa_nil))))
      (pss_one (ps_ret (pe_call LF.G (hr.mono (by omega)) (by rfl) LF.m LF.k LF.b .nil pass0 (pa_cons (pv 0) pa_nil))))
      pss_nil)
    (pss_cons (ps_if (PW.pt (pw_or (pt_not (pt_val (pe_call TO.G (hr.mono (by omega)) (by rfl) TO.m TO.k TO.b .nil pass0 (pa_cons (pv 0) (pa_cons pe_int pa_nil))))) (pw_or1 (pt_cmpR op_notIn_seq (pe_ix ix_tup (pv 0) pe_int (fun _ _ => rfl)) (pe_glob (v := .ref aS) rfl gS rfl) rfl))))
      (pss_one (ps_ret pe_bl))
      pss_nil)
    (pss_one (ps_ret (pe_and (pe_cmpR op_gt (pv 1) pe_int (nomark _)) (pe_and (pe_call IE.G hr (by rfl) IE.m IE.k IE.b .nil pass0 (pa_cons (pe_ix ix_tup (pv 0) pe_int (fun _ _ => rfl)) (pa_cons (pe_op op_sub (pv 1) pe_int) pa_nil))) (pe_one (pe_call IE.G hr (by rfl) IE.m IE.k IE.b .nil pass0 (pa_cons (pe_ix ix_tup (pv 0) pe_int (fun _ _ => rfl)) (pa_cons (pe_op op_sub (pv 1) pe_int) pa_nil)))))))))), ?_⟩
  cases e with
  | num i =>
    have hT' := hT
    obtain ⟨a, rfl, ha⟩ := hT
    refine ⟨_, rfl, a, _, 2, rfl, ha, _, rfl, ?_⟩
    refine ⟨_, rfl, _, .num i, rfl, hT', rfl, hf, q⟩
  | nam z =>
    have hT' := hT
    obtain ⟨a, rfl, ha⟩ := hT
    refine ⟨_, rfl, a, _, 2, rfl, ha, _, rfl, ?_⟩
    refine ⟨_, rfl, _, .nam z, rfl, hT', rfl, hf, q⟩
  | op g x y =>
    obtain ⟨a, vx, vy, rfl, ha, tx, ty⟩ := hT
    refine ⟨_, rfl, a, _, 2, rfl, ha, _, rfl, ?_⟩
    refine ⟨_, rfl, a, _, 3, rfl, ha, _, rfl, ?_⟩
    refine ⟨_, rfl, a, _, 0, _, rfl, rfl, SqT.of ha, atI_nat rfl, aS, _, rfl, .inr (sS _), rfl, flat_strs signsL, _, rfl, ?_⟩
    have e1 : inV (.str g.txt) (signsL.map V.str) = true := by
      rw [inV_str]
      cases g <;> decide +kernel
    rw [if_pos rfl, e1]
    have hn : 1 ≤ n := by
      cases n with
      | zero => exact hf.1.elim
      | succ m => exact Nat.succ_le_succ (Nat.zero_le _)
    have en : ((n + 1 : Nat) : Int) - 1 = (n : Int) := by omega
    refine ⟨_, rfl, _, _, rfl, rfl, _, rfl, ?_⟩
    rw [decide_eq_true (by omega : (1 : Int) < ((n + 1 : Nat) : Int))]
    refine ⟨_, rfl, a, _, 1, _, rfl, rfl, SqT.of ha, atI_nat (j := 1) rfl, _, rfl, _, _, rfl, rfl, vx, x, (by show [vx, V.int (((n + 1 : Nat) : Int) - 1)] = _; rw [en]), tx, hf.1, fun H1 s1 => ?_⟩
    refine ⟨_, rfl, ?_⟩
    refine ⟨_, rfl, a, _, 2, _, rfl, rfl, SqT.of (s1 _ _ ha), atI_nat (j := 2) rfl, _, rfl, _, _, rfl, rfl, vy, y, (by show [vy, V.int (((n + 1 : Nat) : Int) - 1)] = _; rw [en]), ty.same s1, hf.2, fun H2 s2 => q H2 (s1.trans s2)⟩
theorem isEx_none {f : Addr} {fd : FuncData} : FnOk P w K mg base CX0 3 f fd ["thing", "deepest"] (spIsEx 0) := by
  have no : ∀ vs H Q E, ¬ spIsEx 0 vs H Q E := fun vs H Q E h => by
    obtain ⟨_, _, _, _, h1, _⟩ := h
    exact h1
  exact ⟨fun vs H Q E h => absurd h (no vs H Q E), fun A outer s H args us vs Q E _ _ _ _ h => absurd h (no vs H Q E)⟩
theorem isExs {f t l : Addr} {fd td ld : FuncData} (F : FunD K "is_expression" "is_expression" (defArgs sIsEx) (defBody sIsEx) (defScope sIsEx) [.int 6] [] f fd) (m : mg "is_expression" = some (.ref f)) (bd : Binds K fd ["thing", "deepest"] []) (TO : Fk P w K mg base 1 "is_tuple_of" t td ["thing", "many"] spTupOf) (LF : Fk P w K mg base 3 "is_leaf" l ld ["pair"] spLeaf) (G : Gf K mg) :
    ∀ n : Nat, FnOk P w K mg base CX0 (n + 3) f fd ["thing", "deepest"] (spIsEx n)
  | 0 => isEx_none
  | n + 1 => ok_isEx F TO LF ⟨isExs F m bd TO LF G n, m, F.kp, bd⟩ G
end
end SH

set_option Elab.async false
set_option linter.all false
set_option maxRecDepth 100000
/-! Sets of unlike texts: set(tuple), {.. for .. in ..}, and how many stand in one. -/
namespace SHSet
open PySem PySem.Spec PyProof.Rows
/-- a set in which just these unlike texts stand -/
def TxtSet (prog : Program) (w : World) (h : Heap) (D : Addr) (xs : List Str) : Prop := h.SetOf (strKind prog w) D (fun y => decide (y ∈ xs)) xs.length
section
variable {prog : Program} {w : World} {A : Around} {D : Addr}
theorem TxtSet.keep {h k : Heap} {xs : List Str} (q : TxtSet prog w h D xs) (m : ∀ o, h.get? D = some o → k.get? D = some o) : TxtSet prog w k D xs := by
  obtain ⟨o, es, ep, tb, ho, rest⟩ := q
  exact ⟨o, es, ep, tb, m _ ho, rest⟩
/-- one more text, if it isn't there -/
def addT (xs : List Str) (y : Str) : List Str := if y ∈ xs then xs else xs ++ [y]
/-- each once -/
def dd (xs : List Str) : List Str := xs.foldl addT []
theorem dd_snoc (xs : List Str) (y : Str) : dd (xs ++ [y]) = addT (dd xs) y := by
  unfold dd
  rw [List.foldl_append]
  rfl
theorem addT_len (xs : List Str) (y : Str) : (addT xs y).length ≤ xs.length + 1 := by
  unfold addT
  split
  · omega
  · rw [List.length_append, List.length_singleton]
    omega
theorem dd_len (n : Nat) : ∀ xs : List Str, xs.length = n → (dd xs).length ≤ n := by
  induction n with
  | zero =>
    intro xs h
    rw [List.eq_nil_of_length_eq_zero h]
    exact Nat.le_refl _
  | succ n ih =>
    intro xs h
    have hne : xs ≠ [] := fun z => by rw [z] at h; cases h
    have e := (List.dropLast_concat_getLast hne).symm
    have hl : xs.dropLast.length = n := by rw [List.length_dropLast, h]; rfl
    have := ih xs.dropLast hl
    have a := addT_len (dd xs.dropLast) (xs.getLast hne)
    rw [e, dd_snoc]
    omega
theorem dd_fold : ∀ (xs acc : List Str), (acc ++ xs).Nodup → xs.foldl addT acc = acc ++ xs
  | [], acc, _ => (List.append_nil acc).symm
  | x :: r, acc, h => by
    have hx : x ∉ acc := fun m => by
      have := List.nodup_append.mp h
      exact this.2.2 x m x List.mem_cons_self rfl
    show r.foldl addT (addT acc x) = acc ++ x :: r
    have e : addT acc x = acc ++ [x] := by unfold addT; rw [if_neg hx]
    have e2 : acc ++ x :: r = (acc ++ [x]) ++ r := by rw [List.append_assoc]; rfl
    rw [e, e2]
    rw [e2] at h
    exact dd_fold r (acc ++ [x]) h
theorem dd_nd {xs : List Str} (h : xs.Nodup) : dd xs = xs := dd_fold xs [] h
theorem TxtSet.one {xs : List Str} {y : Str} {t : Tok} {s : Shared} {E : Value → Shared → Prop} {Q : Bool → Shared → Prop} (q : TxtSet prog w s.heap D xs) (few : xs.length + 1 < scanBound)
    (h : ∀ k, s.heap.SameBut D k → TxtSet prog w k D (addT xs y) → ∀ r, Q r { s with heap := k, toks := s.toks + 1 }) : wpAny (model prog w) A (setAdd D (.str y t)) Q E s := by
  unfold setAdd
  refine wpAny_holding (wpAny_bind ((strKind prog w).pyHash (k := y) (strKind_is prog w y t) ?_))
  refine wpAny_setAddHashed_of (knd := strKind prog w) (s := { s with toks := s.toks + 1 }) (strKind_is prog w y t) rfl q few fun k sb st => h k sb ?_ _
  unfold addT
  by_cases hy : y ∈ xs
  · rw [if_pos hy]
    refine SetOf_congr st (fun z => ?_) (by rw [decide_eq_true hy]; rfl)
    by_cases e : z = y
    · subst e; simp [hy]
    · simp [e]
  · rw [if_neg hy]
    refine SetOf_congr st (fun z => ?_) ?_
    · simp [List.mem_append]
    · rw [if_neg (by rw [decide_eq_false hy]; exact Bool.false_ne_true), List.length_append]
      rfl
end
section
variable {prog : Program} {w : World} {A : Around} {R : Result → Shared → Prop} {J D : Addr} {ft wt : List Addr} {Gs : Array GenState → Array GenState → Prop} {n : Nat} {Pi : Nat → Value → Prop} {Sat : Nat → Shared → Prop}
theorem texts_loop (W : WalksS prog w A.in1 J ft wt Gs n Pi Sat) (out : D ∉ ft) {xs : List Str} (len : xs.length = n) (few : n + 1 < scanBound) (val : ∀ i v, Pi i v → ∃ t, v = .str (xs.getD i Str.empty) t) :
    ∀ (m i : Nat) (s : Shared), i + m = n → Sat i s → TxtSet prog w s.heap D (dd (xs.take i)) → (∀ z, Moved (D :: wt) Gs s z → TxtSet prog w z.heap D (dd xs) → R (.ok (.ret .none)) z) →
      codeAny (model prog w) A (.builtin "set.update.loop" ⟨[.ref D, .ref J], []⟩) R s := by
  have outW : D ∉ wt := fun q => out (W.sub _ q)
  have wide : ∀ b ∈ wt, b ∈ D :: wt := fun b q => List.mem_cons_of_mem _ q
  intro m
  induction m with
  | zero =>
    intro i s him st q fin
    have ei : xs.take i = xs := List.take_of_length_le (by omega)
    rw [ei] at q
    refine codeAny_builtin PyProof.Rows.F.entry_set_update_loop (by
      rw [Around.under_plainId PyProof.Rows.F.plain_set_update_loop _]
      refine (show wpAny _ A.in1 (pyNext (.ref J) >>= _) _ _ s from wpAny_bind (W.done s _ _ (by rw [show n = i by omega]; exact st) fun z mv => ?_))
      exact (show wpAny _ A.in1 (ret Value.none) _ _ z from wpAny_pure (fin z (mv.mono wide) (q.keep fun o ho => mv.heap D o outW ho))))
  | succ m ih =>
    intro i s him st q fin
    have lt : i < xs.length := by omega
    refine codeAny_builtin PyProof.Rows.F.entry_set_update_loop (by
      rw [Around.under_plainId PyProof.Rows.F.plain_set_update_loop _]
      refine (show wpAny _ A.in1 (pyNext (.ref J) >>= _) _ _ s from wpAny_bind (W.item i s _ _ (by omega) st fun v z pv stz mv => ?_))
      obtain ⟨t, rfl⟩ := val i v pv
      have qz : TxtSet prog w z.heap D (dd (xs.take i)) := q.keep fun o ho => mv.heap D o outW ho
      have here : xs.getD i Str.empty = xs[i] := by rw [List.getD_eq_getElem?_getD, List.getElem?_eq_getElem lt]; rfl
      have more : xs.take (i + 1) = xs.take i ++ [xs.getD i Str.empty] := by rw [here, List.take_add_one, List.getElem?_eq_getElem lt]; rfl
      refine (show wpAny _ A.in1 (holding [Value.str (xs.getD i Str.empty) t] (setAdd D (.str (xs.getD i Str.empty) t)) >>= _) _ _ z from wpAny_bind (wpAny_holding ?_))
      refine qz.one (by have := dd_len i (xs.take i) (by rw [List.length_take]; omega); omega) fun k sb qk r => ?_
      rw [← dd_snoc, ← more] at qk
      refine wpAny_pure ⟨plainId_quiet PyProof.Rows.F.plain_set_update_loop _, ih (i + 1) _ (by omega) (W.frame _ z _ _ stz (Nat.le_succ _) fun b hb o e => ?_) qk fun u mu qu => ?_⟩
      · exact (sb.2 b (fun q : b = D => out (q ▸ hb))).trans e
      · refine fin u (Moved.trans W.gtrans ((mv.mono wide).then_heap (Nat.le_succ _) fun b o hb e => ?_) mu) qu
        exact (sb.2 b (fun q : b = D => hb (by rw [q]; exact List.mem_cons_self))).trans e)
end
section
variable {prog : Program} {w : World} {A : Around} {E : Value → Shared → Prop} {s : Shared}
/-- an empty set, just made -/
abbrev bareSet (led : Bool) : Obj := { cls := .type "set", dict := none, data := .set #[] 0 (.fresh 0 0 led) }
theorem txt0 {h : Heap} {D : Addr} {led : Bool} (g : h.get? D = some (bareSet led)) : TxtSet prog w h D [] :=
  SetOf_congr ((setObjOf_fresh (knd := strKind prog w) led).setOf g (by decide)) (fun _ => rfl) rfl
/-- set.__init__ over a tuple of texts -/
theorem init_texts {D l : Addr} {items : Array Value} {xs : List Str} {led : Bool} {Q : Value → Shared → Prop} (quiet : A.handled = none) (hl : s.heap.IsTuple l items) (hx : StrsAre items.toList xs) (few : xs.length + 1 < scanBound) (hD : D < s.heap.objs.size) (hDl : l < D) (g : s.heap.get? D = some (bareSet led))
    (h : ∀ (k : Heap) (tk : Nat), TxtSet prog w k D (dd xs) → (∀ b o, b < D → s.heap.get? b = some o → k.get? b = some o) → Q .none { s with heap := k, toks := tk }) :
    codeAny (model prog w) A (.call (.builtin "set.__init__") ⟨[.ref D, .ref l], []⟩) (wants Q E) s := by
  have ty : s.TypeIs (.ref D) "set" := ⟨_, g, rfl⟩
  refine codeAny_call_builtin PySem.F.called_set.init.plain PySem.F.entry_set_init (check_set_init_1 ty ?_)
  obtain ⟨⟨c1, c2, c3, c4⟩, at_l, k1, k2, k3⟩ := hl
  simp only at k1 k3
  subst k1
  subst k3
  have f1 := PySem.F.sub_tuple_set
  have f2 := PySem.F.sub_tuple_frozenset
  have f3 : (Value.type "tuple" == Value.type "dict") = false := by decide
  have whole : s.heap.IsTuple l items := ⟨_, at_l, rfl, k2, rfl⟩
  unfold Builtin.«set.__init__» noKeywords Builtin.Frozenset.updateFrom
  generalize hit : pyIter = PI
  wp_walk
  subst hit
  refine wpAny_pyIter_tuple whole (wpAny_bind (wpAny_runValue ?_))
  have calm : A.in1.in1.handled = none := by simp [quiet]
  have lJ : l ≠ s.heap.objs.size := Nat.ne_of_lt (Nat.lt_trans hDl hD)
  have hsz : xs.length = items.size := by rw [← StrsAre.len_eq hx, Array.length_toList]
  refine texts_loop (prog := prog) (w := w) (A := A.in1) ((Walks.tuple calm _ l lJ items).toS) (D := D) ?_ hsz (by omega) (fun i v hv => SS.strs_at hx i v (by rw [Array.getElem?_toList]; exact hv)) items.size 0 _ (by omega) ?_ ?_ fun z mv qz => ?_
  · simp only [List.mem_cons, List.mem_singleton, List.not_mem_nil, or_false, not_or]
    exact ⟨Nat.ne_of_lt hD, Nat.ne_of_gt hDl⟩
  · exact ⟨⟨_, Heap.get?_push_size _ rfl, rfl, rfl⟩, whole.push _⟩
  · exact txt0 (led := led) (Heap.get?_push_of_some _ g)
  · obtain ⟨hz, gz, dz, tz, oz⟩ := z
    obtain rfl : gz = s.gens := mv.gens
    obtain rfl : dz = s.drawn := mv.drawn
    obtain rfl : oz = s.os := mv.os
    refine wpAny_pure (wpAny_pure (h hz tz qz fun b o hb e => mv.heap b o ?_ (Heap.get?_push_of_some _ e)))
    simp only [List.mem_cons, List.mem_singleton, List.not_mem_nil, or_false, not_or]
    exact ⟨Nat.ne_of_lt hb, Nat.ne_of_lt (Nat.lt_trans hb hD)⟩
/-- set(tuple of unlike texts) -/
theorem call_texts {l : Addr} {items : Array Value} {xs : List Str} {Q : Value → Shared → Prop} (quiet : A.handled = none) (hl : s.heap.IsTuple l items) (hx : StrsAre items.toList xs) (few : xs.length + 1 < scanBound)
    (h : ∀ (k : Heap) (tk : Nat), TxtSet prog w k s.heap.objs.size (dd xs) → (∀ b o, b < s.heap.objs.size → s.heap.get? b = some o → k.get? b = some o) → Q (.ref s.heap.objs.size) { s with heap := k, toks := tk }) :
    wpAny (model prog w) A (call (.type "set") [.ref l]) Q E s := by
  obtain ⟨c, tl, f1⟩ := PySem.F.called_set.mro
  have f2 := PySem.F.called_set.made
  have f3 := PySem.F.called_set.sub
  refine wpAny_call (codeAny_of_tree (show wpAny _ _ (callAny (.type "set") _) _ _ _ from wpAny_pure ⟨Code.quiet_builtin _ (by decide +kernel), codeAny_builtin PySem.F.entry_type_call ?_⟩))
  rw [Around.under_plain (weight_type_call_type "set" [.ref l] []) rfl]
  have f4 := PySem.F.called_set.notType
  have f5 := PySem.F.called_set.canCreate
  have f6 := PySem.F.typeCall_set_1 (.ref l)
  repeat (any_goals (first | assumption | wp_step))
  refine codeAny_mono (code_set_new_1 (.ref l) (E := E) (Q₁ := fun o z => ∃ led : Bool, o = .ref s.heap.objs.size ∧ z = { s with heap := s.heap.push (bareSet led) }) fun led => ⟨led, rfl, rfl⟩) fun r z hr => ?_
  cases r with
  | error e => exact hr
  | ok fl =>
    cases fl with
    | ret obj =>
      obtain ⟨led, rfl, rfl⟩ := hr
      have g : (s.heap.push (bareSet led)).get? s.heap.objs.size = some (bareSet led) := Heap.get?_push_size _ rfl
      have f7 : Shared.TypeIs { s with heap := s.heap.push (bareSet led) } (.ref s.heap.objs.size) "set" := ⟨_, g, rfl⟩
      have f8 := PySem.F.called_set.init.lookup
      have f9 := PySem.F.called_set.init.bind (.ref s.heap.objs.size)
      repeat (any_goals (first | assumption | wp_step))
      have hlt : l < s.heap.objs.size := by
        obtain ⟨o, ho, _⟩ := hl
        exact Heap.lt_size ho
      refine codeAny_mono (init_texts (prog := prog) (w := w) (E := E) (Q := fun r z => r = .none ∧ ∃ k tk, z = { s with heap := k, toks := tk } ∧ TxtSet prog w k s.heap.objs.size (dd xs) ∧ ∀ b o, b < s.heap.objs.size → s.heap.get? b = some o → k.get? b = some o) (led := led) (by simp [quiet]) (hl.push _) hx few (by rw [Heap.size_push]; exact Nat.lt_succ_self _) hlt g fun k tk q kp => ⟨rfl, k, tk, rfl, q, fun b o hb e => kp b o hb (Heap.get?_push_of_some _ e)⟩) fun r z hr => ?_
      cases r with
      | error e => exact hr
      | ok fl =>
        cases fl with
        | ret r =>
          obtain ⟨rfl, k, tk, rfl, q, kp⟩ := hr
          repeat (any_goals (first | assumption | wp_step))
          exact h k tk q kp
        | _ => exact hr.elim
    | _ => exact hr.elim
end
end SHSet
namespace SH
open PySem PySem.Spec PyProof.Rows L2 SHSet
/-- len(set(t)), t a tuple of texts -/
def tLenTxt (K : PySem.W.Frag) (ta : TE) : TE := fun σ H Q => ta σ H fun x H1 => ∃ (l : Addr) (xs : List Str), x = .ref l ∧ SqT K H1 l (xs.map V.str) ∧ xs.length ≤ 1000 ∧ Q (.int ((dd xs).length : Nat)) H1
section
variable {X : Cx}
theorem pe_lenTxt {a : Expr} {ta : TE} {p p2 q pos : Pos} (hg : Gl X "len") (ml : X.mg "len" = none) (hg2 : Gl X "set") (ms : X.mg "set" = none) (ha : PE X a ta) (quiet : X.calm = true := by rfl)
    (plain : starEach [a] X.env = (false, eval a X.env) :: starEach [] X.env := by rfl) : PE X (.Call (.Name "len" p) [.Call (.Name "set" p2) [a] [] q] [] pos) (tLenTxt X.K ta) := by
  refine ⟨fun pins s σ H Q I h => Call_ (ld_blt I hg ml boot_len (callWith_builtin1 (args_cons (Call_ (ld_blt I hg2 ms boot_set ?_)) rfl) rfl rfl))⟩
  refine callWith_type1 (args_cons (thn (ha.run pins s σ H _ I h) fun v z ⟨x, H1, J, rx, l, xs, ex, tq, few, fin⟩ => args_nil ?_) plain) plain rfl
  subst ex
  cases rx
  obtain ⟨its, rv, tup, _⟩ := J.tuple tq
  have small : (dd xs).length ≤ 1000 := Nat.le_trans (dd_len xs.length xs rfl) few
  refine call_texts (J.ok.hd quiet) tup (xs := xs) (by simpa using strsAre_of rv) (by unfold scanBound; omega) fun k tk qs kp => args_nil ?_
  obtain ⟨o, es, ep, tb, h1, h2, h3, _, _, _, h4, h5⟩ := qs
  have J2 : Inv X pins σ H1 { z with heap := k, toks := tk } := J.kept fun b o e => kp b o (Heap.lt_size e) e
  exact call_len_set h1 h2 h3 h4 (by rw [h5]; omega) ⟨.int ((dd xs).length : Nat), H1, J2.tok _, ⟨_, by rw [h5]⟩, fin⟩
end
end SH

set_option Elab.async false
set_option linter.all false
set_option maxRecDepth 100000
set_option maxHeartbeats 2000000
/-! {e for x in xs}, e a text. -/
namespace SH
open PySem PySem.Spec PyProof.Rows L2 SHSet
/-- the set of texts at D -/
def TxtO (P : Program) (w : World) (D : Addr) (xs : List Str) : HO := .ext fun h => TxtSet P w h D xs
theorem txtO_ok {P : Program} {w : World} {H : Hp} {h : Heap} {D : Addr} {xs : List Str} (q : TxtSet P w h D xs) : ObjOk P w H h D (TxtO P w D xs) := by
  have q' := q
  obtain ⟨o, _, _, _, ho, _⟩ := q'
  exact ⟨q, ⟨o, ho⟩, fun h1 h2 p k => TxtSet.keep p k⟩
section
variable {X : Cx}
theorem add_txt {pins : List (Addr × Obj)} {σ : L2.St} {H : Hp} {s : Shared} {E : Value → Shared → Prop} {D : Addr} {xs : List Str} {z : Str} {t : Tok} {Q : Value → Shared → Prop} (I : Inv X pins σ H s) (hD : H D = some (TxtO X.prog X.w D xs)) (few : xs.length + 1 < scanBound)
    (h : ∀ s', Inv X pins σ (upd H D (TxtO X.prog X.w D (addT xs z))) s' → Q .none s') : wpAny (model X.prog X.w) X.A (call (.builtin "set.add") [.ref D, .str z t]) Q E s := by
  have q : TxtSet X.prog X.w s.heap D xs := (I.hok D _ hD).1
  refine call_set_add (knd := strKind X.prog X.w) (k := z) (strKind_is X.prog X.w z t) rfl q few fun k sb st => ?_
  have nw : TxtSet X.prog X.w k D (addT xs z) := by
    unfold addT
    by_cases hy : z ∈ xs
    · rw [if_pos hy]
      refine SetOf_congr st (fun y => ?_) (by rw [decide_eq_true hy]; rfl)
      by_cases e : y = z
      · subst e; simp [hy]
      · simp [e]
    · rw [if_neg hy]
      refine SetOf_congr st (fun y => ?_) ?_
      · simp [List.mem_append]
      · rw [if_neg (by rw [decide_eq_false hy]; exact Bool.false_ne_true), List.length_append]
        rfl
  have ex : ∃ u, k.get? D = some u := by
    have n2 := nw
    obtain ⟨o, _, _, _, ho, _⟩ := n2
    exact ⟨o, ho⟩
  exact h _ (I.write (e := D) (t' := s.toks + 1) (by rw [hD]; trivial) (.inl rfl) (fun b u hb hu => (sb.2 b hb).trans hu) ex (txtO_ok nw))
/-- the readings of {e for x in xs}: D the new set -/
def tTxc (P : Program) (w : World) (wi : TI) (g : TG) (te : TE) (vs : List Nat) : TE := fun σ H Q => wi σ H fun J H1 => ∀ D, H1 D = none → ∃ W : Nat → Nat → Hp → Prop, (∃ m, W 0 m (upd H1 D (TxtO P w D []))) ∧ ∀ i m H, W i m H →
  (J.stop i H ∧ Q (.ref D) H) ∨ (J.go i H ∧ ∃ Nx : Hp → Prop, (∀ H', Nx H' → ∃ m', m' < m ∧ W (i + 1) m' H') ∧ ∀ x H', J.yld i H x H' → g x (wipe σ vs) H' fun σ2 H2 => wipe σ2 vs = wipe σ vs ∧
    te σ2 H2 fun y H4 => ∃ (z : Str) (xs : List Str), y = .str z ∧ H4 D = some (TxtO P w D xs) ∧ xs.length + 1 < scanBound ∧ Nx (upd H4 D (TxtO P w D (addT xs z))))
abbrev freshSet (w : World) : Obj := { cls := .type "set", dict := none, data := .set #[] 0 (.fresh 0 0 (!w.params.followText "set-order")) }
theorem pe_txc {elt tg iter : Expr} {scope : Scope} {own : List (PySem.Str × Nat)} {pos : Pos} {wi : TI} {g : TG} {te : TE} (quiet : X.calm = true) (ndN : X.N.Nodup) (hi : PI X tg iter wi) (ok : BlkOk X.N X.env.scope scope own)
    (hg : ∀ (s : Shared) (H : Hp) (C : Addr) (cl : List (PySem.Str × Addr)) (fp : List Addr), PG (X.blk s H scope (compEnvC scope cl C X.env) fp) tg g)
    (he : ∀ (s : Shared) (H : Hp) (C : Addr) (cl : List (PySem.Str × Addr)) (fp : List Addr), PE (X.blk s H scope (compEnvC scope cl C X.env) fp) elt te) (fold : ∀ x, foldedSetIterable iter X.env x = pure x := by intro _; rfl) :
    PE X (.SetComp elt [⟨tg, iter, [], 0⟩] scope pos) (tTxc X.prog X.w wi g te (own.map (·.2))) := by
  refine ⟨fun pins s σ H Q I h => ?_⟩
  rw [PpSet.eval_SetComp]
  have fr : ∀ y ∈ scope.names, y.2 = .free → ∃ c, X.env.cells.lookup y.1 = some c := fun y hy e => (ok.free y hy e).elim (fun k => I.ok.has _ (.inl k)) fun k => I.ok.has _ (.inr k)
  refine wpAny_comprehension_free (use := none) rfl fold (closure_ok fr) ok.kind (fun y hy e => by rw [ok.uniq y hy, e]) (thn (hi.run pins s σ H _ I h) fun _ s1 hx => thn hx fun _ s2 ⟨it, fp, tn, J, H2, e, I2, T, st2, f2, q⟩ => ?_)
  subst e
  refine PpSet.newSet_ok (newEnv_comp ?_)
  generalize hD : s2.heap.objs.size = D
  obtain ⟨W, ⟨m0, w0⟩, turn⟩ := q D (I2.hok.fresh (Nat.le_of_eq hD))
  generalize ez : ({ s2 with heap := s2.heap.push (freshSet X.w) } : Shared) = sz
  have I3 : Inv X pins σ (upd H2 D (TxtO X.prog X.w D [])) sz := by
    subst ez
    refine I2.laid (t' := s2.toks) (fun b o e => Heap.get?_push_of_some _ e) (Nat.le_of_eq hD) ?_
    subst hD
    exact txtO_ok (txt0 (Heap.get?_push_size _ rfl))
  have hh : sz.heap = s2.heap.push (freshSet X.w) := by subst ez; rfl
  have below : ∀ b ∈ fp, b < s2.heap.objs.size := fun b hb => (T.obj _ _ st2 b hb).elim fun o ho => Heap.lt_size ho.1
  have f3 : ∀ b ∈ fp, FpOk X pins (upd H2 D (TxtO X.prog X.w D [])) b ∧ b < sz.heap.objs.size := fun b hb => by
    refine ⟨⟨?_, (f2 b hb).2⟩, by rw [hh, Heap.size_push]; exact Nat.lt_succ_of_lt (below b hb)⟩
    rw [upd_ne (fun z => Nat.lt_irrefl _ (hD ▸ z ▸ below b hb))]
    exact (f2 b hb).1
  have st3 : tn 0 sz.heap := T.keep _ _ _ st2 fun b _ o e => by rw [hh]; exact Heap.get?_push_of_some _ e
  have I4 := block_start I3 ok ndN f3
  have pg := hg sz (upd H2 D (TxtO X.prog X.w D [])) sz.heap.objs.size (cellsFrom (sz.heap.objs.size + 1) scope.names (cloFrom X.env.cells scope.names [])) fp
  have pe := he sz (upd H2 D (TxtO X.prog X.w D [])) sz.heap.objs.size (cellsFrom (sz.heap.objs.size + 1) scope.names (cloFrom X.env.cells scope.names [])) fp
  show codeAny _ _ (.compStart (.SetComp elt [⟨tg, iter, [], 0⟩] scope pos) 0 (.ref it) (.ref D) (compEnvC scope (cellsFrom (sz.heap.objs.size + 1) scope.names (cloFrom X.env.cells scope.names [])) sz.heap.objs.size X.env)) (compPost (model X.prog X.w) X.A X.xe none _ (.ref D) sz.heap.objs.size) { sz with heap := pushCells (sz.heap.push { cls := .type "dict", data := .dict #[] }) scope.names }
  have nfp : ∀ b ∈ fp, (upd H2 D (TxtO X.prog X.w D [])) b = none := fun b hb => (f3 b hb).1.1
  generalize ec : compEnvC scope (cellsFrom (sz.heap.objs.size + 1) scope.names (cloFrom X.env.cells scope.names [])) sz.heap.objs.size X.env = ce at I4 pg pe ⊢
  have cl : ce.locals = sz.heap.objs.size := by subst ec; rfl
  generalize upd H2 D (TxtO X.prog X.w D []) = H3 at I3 I4 pg pe w0 nfp f3
  generalize e4 : ({ sz with heap := pushCells (sz.heap.push { cls := .type "dict", data := .dict #[] }) scope.names } : Shared) = s4 at I4 ⊢
  have st4 : tn 0 s4.heap := T.keep _ _ _ st3 fun b _ o e => by rw [← e4]; exact pushCells_keeps _ _ _ _ (Heap.get?_push_of_some _ e)
  have stat : ∀ {σ' : L2.St} {H' : Hp} {s' : Shared}, Inv (X.blk sz H3 scope ce fp) [] σ' H' s' → (∀ b ∈ fp, H' b = none) → ∀ b ∈ fp, FpOk (X.blk sz H3 scope ce fp) [] H' b := fun {_ _ _} K hn b hb =>
    ⟨hn b hb, (K.ok.exf b hb).1, K.ok.exfs b hb, .inl hb, fun x c e => (K.ok.exf b hb).2 x c e, fun p hp => absurd (show p ∈ ([] : List (Addr × Obj)) ++ [] from hp) (by simp)⟩
  have loop : codeAny (model X.prog X.w) X.A (.compLoop (.SetComp elt [⟨tg, iter, [], 0⟩] scope pos) 0 (.ref it) (.ref D) ce) (compPost (model X.prog X.w) X.A X.xe none (EP X pins σ Q) (.ref D) sz.heap.objs.size) s4 := by
    refine PpSet.compLoopS_any (fun n z => ∃ i H', Inv (X.blk sz H3 scope ce fp) [] (wipe σ (own.map (·.2))) H' z ∧ tn i z.heap ∧ (∀ b ∈ fp, H' b = none) ∧ W i n H') ?_ m0 ⟨0, H3, I4, st4, nfp, w0⟩
    rintro n s5 ⟨i, H5, I5, st5, n5, w5⟩
    rcases turn i n H5 w5 with ⟨stop, qq⟩ | ⟨go, Nx, hNx, step⟩
    · refine thnF (T.done (X.blk sz H3 scope ce fp) rfl rfl rfl quiet i [] s5 _ H5 (fun _ _ => False) I5 (stat I5 n5) st5 stop) fun r s6 ⟨hr, I6⟩ => ?_
      subst hr
      have I7 : Inv X pins σ H5 s6 := I3.call' (ch := fp) I6.os I6.base I6.hok I6.bare fun b hb => have u := (f3 b hb).1.2; ⟨u.2.2.1, u.1, u.2.2.2.1, u.2.2.2.2⟩
      have nC : H5 sz.heap.objs.size = none := cl ▸ (show H5 ce.locals = none from I6.free)
      obtain ⟨m, hn, _⟩ := I6.loc
      have hn' : s6.heap.Ns sz.heap.objs.size m := cl ▸ (show s6.heap.Ns ce.locals m from hn)
      obtain ⟨u0, u1, u2, u3, u4, u5⟩ := I3.fpOk (Nat.le_refl _) nC
      refine ⟨m, hn', fun k sb => ⟨.ref D, H5, I7.turned (t' := s6.toks) (fun b o hb e => (sb.2 b hb).trans e) u0 u1 u3 u4 u5, rfl, qq⟩⟩
    · refine thnF (T.item (X.blk sz H3 scope ce fp) rfl rfl rfl quiet i [] s5 _ H5 (fun _ _ => False) I5 (stat I5 n5) st5 go) fun r s6 ⟨u, hr, h6⟩ => ?_
      subst hr
      refine thnF h6 fun _ s7 ⟨x, H7, I7, r7, y7, st7, n7⟩ => ?_
      refine thnF (pg.run _ s7 _ H7 x u _ (I7.pinned (stat I7 n7) (T.obj _ _ st7)) r7 (step x H7 y7)) fun _ s8 ⟨σ8, H8, I8, hw8, q8⟩ => ?_
      refine thnF ((pts_nil (X := X.blk sz H3 scope ce fp)).run _ s8 σ8 H8 _ I8 (show tYes σ8 H8 (fun b K => b = true ∧ te σ8 K _) from ⟨rfl, q8⟩)) fun b s9 ⟨H9, I9, eb, q9⟩ => ?_
      subst eb
      simp only [if_true]
      refine thnF (pe.run _ s9 σ8 H9 _ I9 q9) fun z s10 ⟨yv, H10, I10, r10, zt, xs, ey, hD10, few, nx⟩ => ?_
      subst ey
      obtain ⟨tk, rfl⟩ := (show ∃ tk, z = Value.str zt tk from r10)
      refine add_txt (X := X.blk sz H3 scope ce fp) I10 hD10 few fun s11 I11 => ?_
      obtain ⟨m', hm, w'⟩ := hNx _ nx
      have pin : ∀ b ∈ fp, ∀ o, s7.heap.get? b = some o → s11.heap.get? b = some o ∧ (upd H10 D (TxtO X.prog X.w D (addT xs zt))) b = none := fun b hb o e =>
        have v := I11.pin (b, o) (List.mem_append_right _ (List.mem_append_right _ (mem_pinsAt hb e)))
        ⟨v.1, v.2.1⟩
      refine ⟨m', hm, i + 1, _, (I11.unpinned (pins := [])).weak (by rw [← hw8, wipe_length]) (fun j v e => ?_), T.keep _ _ _ st7 fun b hb o e => (pin b hb o e).1, fun b hb => ?_, w'⟩
      · rw [← hw8] at e
        exact (wipe_some e).1
      · exact (T.obj _ _ st7 b hb).elim fun o ho => (pin b hb o ho.1).2
  exact PpSet.codeAny_compStart_set loop (T.self X.A 0 _ _ _ st4 loop)
/-- len of such a set -/
theorem call_lenTxt : CallR X (.builtin "len") (fun xs H Q => ∃ (D : Addr) (l : List Str), xs = [.ref D] ∧ H D = some (TxtO X.prog X.w D l) ∧ l.length ≤ 1000 ∧ Q (.int (l.length : Nat)) H) := by
  intro pins s σ H xs us Q I r h
  obtain ⟨D, l, rfl, hD, few, q⟩ := h
  obtain ⟨u, rfl, ru⟩ := vals1 r
  cases ru
  obtain ⟨o, es, ep, tb, h1, h2, h3, _, _, _, h4, h5⟩ := (I.hok D _ hD).1
  exact call_len_set h1 h2 h3 h4 (by rw [h5]; omega) ⟨.int (l.length : Nat), H, I.tok _, ⟨_, by rw [h5]⟩, q⟩
end
end SH

set_option Elab.async false
set_option linter.all false
set_option maxRecDepth 100000
namespace SH
open PySem L2
abbrev sAreNames : Stmt := topS 31
abbrev sAreEx : Stmt := topS 34
abbrev sIfHead : Stmt := topS 38
abbrev sPlain : Stmt := topS 39
abbrev sRowL : Stmt := topS 36
abbrev sBranL : Stmt := topS 37
abbrev sRowsL : Stmt := topS 35
abbrev sIsWork : Stmt := topS 26
abbrev sChkWork : Stmt := topS 25
theorem scAreNames : FnScope ["thing", "part"] ["thing"] (defScope sAreNames) := ⟨rfl, rfl, rfl, by decide +kernel, rfl, by decide +kernel, by decide +kernel⟩
theorem scAreEx : FnScope ["thing", "part"] ["thing"] (defScope sAreEx) := ⟨rfl, rfl, rfl, by decide +kernel, rfl, by decide +kernel, by decide +kernel⟩
theorem scIfHead : FnScope ["thing"] ["thing"] (defScope sIfHead) := ⟨rfl, rfl, rfl, by decide +kernel, rfl, by decide +kernel, by decide +kernel⟩
theorem scPlain : FnScope ["thing"] ["thing"] (defScope sPlain) := ⟨rfl, rfl, rfl, by decide +kernel, rfl, by decide +kernel, by decide +kernel⟩
theorem scRowL : FnScope ["thing", "ifs", "left"] ["thing", "ifs", "left"] (defScope sRowL) := ⟨rfl, rfl, rfl, by decide +kernel, rfl, by decide +kernel, by decide +kernel⟩
theorem scBranL : FnScope ["row", "ifs", "left"] ["row", "ifs", "left"] (defScope sBranL) := ⟨rfl, rfl, rfl, by decide +kernel, rfl, by decide +kernel, by decide +kernel⟩
theorem scRowsL : FnScope ["thing", "ifs", "left", "row"] ["thing", "ifs", "left"] (defScope sRowsL) := ⟨rfl, rfl, rfl, by decide +kernel, rfl, by decide +kernel, by decide +kernel⟩
theorem scIsWork : FnScope ["thing", "name", "names", "room", "rows"] ["thing"] (defScope sIsWork) := ⟨rfl, rfl, rfl, by decide +kernel, rfl, by decide +kernel, by decide +kernel⟩
theorem scChkWork : FnScope ["thing"] ["thing"] (defScope sChkWork) := ⟨rfl, rfl, rfl, by decide +kernel, rfl, by decide +kernel, by decide +kernel⟩
def spAreNames : Sp := fun vs H Q _ => ∃ (a : Addr) (nm : List Str), vs = [.ref a] ∧ H a = some (.tup (nm.map V.str)) ∧ nm.length ≤ 4 ∧ (∀ s ∈ nm, NmOk s) ∧ nm.Nodup ∧ ∀ H', Same H H' → Q (.bl true) H'
def spAreEx : Sp := fun vs H Q _ => ∃ (a : Addr) (es : List Ex) (ws : List V), vs = [.ref a] ∧ H a = some (.tup ws) ∧ TrsIn H es ws ∧ es.length ≤ 4 ∧ (∀ e ∈ es, Ex.fine 6 e) ∧ ∀ H', Same H H' → Q (.bl true) H'
def Rs.isIf : Rs → Bool
  | .iff _ _ _ _ => true
  | _ => false
def spIfHead (n : Nat) : Sp := fun vs H Q _ => ∃ (v : V) (rs : Rs) (r : List V), vs = [v] ∧ RsIn H rs (v :: r) ∧ Rs.ok n rs ∧ ∀ H', Same H H' → Q (.bl rs.isIf) H'
def spPlain (n : Nat) : Sp := fun vs H Q _ => ∃ (v : V) (rs : Rs) (r : List V), vs = [v] ∧ RsIn H rs (v :: r) ∧ Rs.ok n rs ∧ rs.isIf = false ∧ ∀ H', Same H H' → Q (.bl true) H'
def spRowL (n : Nat) : Sp := fun vs H Q _ => ∃ (v : V) (rs : Rs) (r : List V) (l : Nat), vs = [v, .int n, .int l] ∧ RsIn H rs (v :: r) ∧ Rs.ok n rs ∧ rs.rc ≤ l ∧ ∀ H', Same H H' → Q (.int ((l - rs.rc : Nat) : Int)) H'
def spRowsL (n : Nat) : Sp := fun vs H Q _ => ∃ (p : Addr) (rs : Rs) (xs : List V) (l : Nat), vs = [.ref p, .int n, .int l] ∧ H p = some (.tup xs) ∧ RsIn H rs xs ∧ Rs.ok n rs ∧ rs.count ≤ l ∧ ∀ H', Same H H' → Q (.int ((l - rs.count : Nat) : Int)) H'
def spBranL (n : Nat) : Sp := fun vs H Q _ => ∃ (a p p' : Addr) (v : V) (A B : Rs) (xs ys : List V) (l : Nat), vs = [.ref a, .int n, .int l] ∧ H a = some (.tup [.str "if", v, .ref p, .ref p']) ∧ H p = some (.tup xs) ∧ RsIn H A xs ∧ H p' = some (.tup ys) ∧ RsIn H B ys ∧ Rs.ok n A ∧ Rs.ok n B ∧ A.count + B.count ≤ l ∧
  ∀ H', Same H H' → Q (.int ((l - (A.count + B.count) : Nat) : Int)) H'
theorem TrsIn.same {H H' : Hp} (h : Same H H') : ∀ {es : List Ex} {vs : List V}, TrsIn H es vs → TrsIn H' es vs
  | [], _, q => q
  | _ :: _, _, ⟨v, r, e, t, q⟩ => ⟨v, r, e, t.same h, TrsIn.same h q⟩
theorem OptIn.same {H H' : Hp} (h : Same H H') : ∀ {e : Option Ex} {v : V}, OptIn H e v → OptIn H' e v
  | none, _, q => q
  | some _, _, q => TrIn.same h q
theorem RsIn.same {H H' : Hp} (h : Same H H') : ∀ {r : Rs} {vs : List V}, RsIn H r vs → RsIn H' r vs
  | .nil, _, q => q
  | .put _ _ _, _, ⟨a, v, r, e, k, t, q⟩ => ⟨a, v, r, e, h _ _ k, t.same h, RsIn.same h q⟩
  | .go _ _ _ _ _, _, ⟨a, p, ws, r, e, k, k2, t, q⟩ => ⟨a, p, ws, r, e, h _ _ k, h _ _ k2, t.same h, RsIn.same h q⟩
  | .wait _ _ _ _, _, ⟨a, v, r, e, k, t, q⟩ => ⟨a, v, r, e, h _ _ k, t.same h, RsIn.same h q⟩
  | .iff _ _ _ _, _, ⟨a, v, p, xs, p', ys, r, e, k, t, k1, q1, k2, q2, q⟩ => ⟨a, v, p, xs, p', ys, r, e, h _ _ k, t.same h, h _ _ k1, RsIn.same h q1, h _ _ k2, RsIn.same h q2, RsIn.same h q⟩
  | .give _ _ _, _, ⟨a, v, r, e, k, t, q⟩ => ⟨a, v, r, e, h _ _ k, t.same h, RsIn.same h q⟩
theorem TrIn.updl {H : Hp} {b : Addr} {ys zs : List V} (hb : H b = some (.lst ys)) {e : Ex} {v : V} (h : TrIn H e v) : TrIn (upd H b (.lst zs)) e v :=
  h.but hb fun a o na q => by rw [upd_ne na]; exact q
theorem TrsIn.updl {H : Hp} {b : Addr} {ys zs : List V} (hb : H b = some (.lst ys)) : ∀ {es : List Ex} {vs : List V}, TrsIn H es vs → TrsIn (upd H b (.lst zs)) es vs
  | [], _, q => q
  | _ :: _, _, ⟨v, r, e, t, q⟩ => ⟨v, r, e, t.updl hb, TrsIn.updl hb q⟩
theorem OptIn.updl {H : Hp} {b : Addr} {ys zs : List V} (hb : H b = some (.lst ys)) : ∀ {e : Option Ex} {v : V}, OptIn H e v → OptIn (upd H b (.lst zs)) e v
  | none, _, q => q
  | some _, _, q => TrIn.updl hb q
theorem tup_updl {H : Hp} {a b : Addr} {xs ys zs : List V} (hb : H b = some (.lst ys)) (h : H a = some (.tup xs)) : (upd H b (.lst zs)) a = some (.tup xs) := by
  rw [upd_ne (lst_ne h hb)]
  exact h
theorem RsIn.upd_lst {H : Hp} {b : Addr} {ys zs : List V} (hb : H b = some (.lst ys)) : ∀ {r : Rs} {vs : List V}, RsIn H r vs → RsIn (upd H b (.lst zs)) r vs
  | .nil, _, q => q
  | .put _ _ _, _, ⟨a, v, r, e, k, t, q⟩ => ⟨a, v, r, e, tup_updl hb k, t.updl hb, RsIn.upd_lst hb q⟩
  | .go _ _ _ _ _, _, ⟨a, p, ws, r, e, k, k2, t, q⟩ => ⟨a, p, ws, r, e, tup_updl hb k, tup_updl hb k2, t.updl hb, RsIn.upd_lst hb q⟩
  | .wait _ _ _ _, _, ⟨a, v, r, e, k, t, q⟩ => ⟨a, v, r, e, tup_updl hb k, t.updl hb, RsIn.upd_lst hb q⟩
  | .iff _ _ _ _, _, ⟨a, v, p, xs, p', ys', r, e, k, t, k1, q1, k2, q2, q⟩ => ⟨a, v, p, xs, p', ys', r, e, tup_updl hb k, t.updl hb, tup_updl hb k1, RsIn.upd_lst hb q1, tup_updl hb k2, RsIn.upd_lst hb q2, RsIn.upd_lst hb q⟩
  | .give _ _ _, _, ⟨a, v, r, e, k, t, q⟩ => ⟨a, v, r, e, tup_updl hb k, t.updl hb, RsIn.upd_lst hb q⟩
theorem TrsIn.snoc {H : Hp} {e : Ex} {v : V} (h : TrIn H e v) : ∀ {es : List Ex} {vs : List V}, TrsIn H es vs → TrsIn H (es ++ [e]) (vs ++ [v])
  | [], _, q => by cases q; exact ⟨v, [], rfl, h, rfl⟩
  | _ :: _, _, ⟨v', r, e', t, q⟩ => by cases e'; exact ⟨v', _, rfl, t, TrsIn.snoc h q⟩
theorem TrsIn.len {H : Hp} : ∀ {es : List Ex} {vs : List V}, TrsIn H es vs → vs.length = es.length
  | [], _, q => by cases q; rfl
  | _ :: _, _, ⟨v, r, e, t, q⟩ => by cases e; exact congrArg Nat.succ (TrsIn.len q)
theorem TrsIn.get_ {H : Hp} : ∀ {es : List Ex} {vs : List V} {i : Nat} {v : V}, TrsIn H es vs → vs[i]? = some v → ∃ e, es[i]? = some e ∧ TrIn H e v
  | [], _, i, v, q, h => by cases q; simp at h
  | _ :: _, _, 0, v, ⟨v', r, e, t, q⟩, h => by cases e; cases h; exact ⟨_, rfl, t⟩
  | _ :: _, _, i + 1, v, ⟨v', r, e, t, q⟩, h => by cases e; have z := TrsIn.get_ (i := i) q h; exact z
structure Wk where
  name : Str
  names : List Str
  room : Int
  rows : Rs
def WkIn (H : Hp) (W : Wk) (v : V) : Prop := ∃ (a pn pr : Addr) (xs : List V), v = .ref a ∧ H a = some (.tup [.str "work", .str W.name, .ref pn, .int W.room, .ref pr]) ∧ H pn = some (.tup (W.names.map V.str)) ∧ H pr = some (.tup xs) ∧ RsIn H W.rows xs
structure Wk.ok (W : Wk) : Prop where
  name : NmOk W.name
  few : W.names.length ≤ 4
  names : ∀ s ∈ W.names, NmOk s
  nd : W.names.Nodup
  room0 : 0 ≤ W.room
  room1 : W.room ≤ 1000
  rows : Rs.ok 3 W.rows
  count : W.rows.count ≤ 40
theorem WkIn.same {H H' : Hp} {W : Wk} {v : V} (h : Same H H') : WkIn H W v → WkIn H' W v
  | ⟨a, pn, pr, xs, e, k1, k2, k3, q⟩ => ⟨a, pn, pr, xs, e, h _ _ k1, h _ _ k2, h _ _ k3, q.same h⟩
def spIsWork : Sp := fun vs H Q _ => ∃ (v : V) (W : Wk), vs = [v] ∧ WkIn H W v ∧ W.ok ∧ ∀ H', Same H H' → Q (.bl true) H'
def spChkWork : Sp := fun vs H Q _ => ∃ (v : V) (W : Wk), vs = [v] ∧ WkIn H W v ∧ W.ok ∧ ∀ H', Same H H' → Q .non H'
theorem all_true (n : Nat) : (List.replicate n true).all id = true := by
  rw [List.all_eq_true]
  intro x hx
  exact (List.mem_replicate.mp hx).2
section
variable {P : Program} {w : World} {K : PySem.W.Frag} {mg : Str → Option Value} {base : Heap}
theorem ok_areNames {f i : Addr} {fd idd : FuncData} (F : Fun K "are_names" "are_names" sAreNames f fd) (IN : Fk P w K mg base 1 "is_name" i idd ["thing"] spIsName) (T : Bi mg) (G : Gf K mg) (mt : mg "tuple" = none) (msx : mg "set" = none) : FnOk P w K mg base CX0 2 f fd ["thing"] spAreNames := by
  refine F.ok scAreNames (fun vs H Q E h => ?_) (fun cdv A outer s H vs Q E hr h => ?_)
  · obtain ⟨a, nm, rfl, _⟩ := h
    rfl
  obtain ⟨a, nm, rfl, ha, h4, hok, hnd, q⟩ := h
  refine ⟨_, (pss_cons (ps_if (PW.pt (pw_or (pt_not (pt_val (pe_callB call_isi (by rfl) T.isinstance (by decide +kernel) (pa_cons (pv 0) (pa_cons (pe_bltn (v := .ty "tuple") (by rfl) mt (by decide +kernel) rfl) pa_nil))))) (pw_or1 (pt_cmpR op_gt (pe_callB call_len_seq (by rfl) T.len (by decide +kernel) (pa_cons (pv 0) pa_nil)) (pe_gi G.names) (nomark _)))))
      (pss_one (ps_ret pe_bl))
      pss_nil)
    (pss_one (ps_ret (pe_and (pe_callB (cr_all rfl) (by rfl) T.all (by decide +kernel) (pa_cons (pe_lc (own := [("part", 1)]) (g := gName 1) (tt := tYes) (by rfl) scAreNames.nd (pi_tup (pv 0)) (blkOk_by (own := [("part", 1)]) (N := ["thing", "part"]) (sc := defScope sAreNames) (by decide +kernel)) (fun _ _ _ _ _ => pg_name (i := 1) scAreNames.nd rfl (Or.inl rfl)) (fun _ _ _ _ _ => pts_nil) (fun _ _ _ _ _ => (pe_call IN.G (hr.mono (by omega)) (by rfl) IN.m IN.k IN.b .nil pass0 (pa_cons (pv 1) pa_nil)))) pa_nil)) (pe_one (pe_cmpR op_eq (pe_lenTxt (by rfl) T.len (by rfl) msx (pv 0)) (pe_callB call_len_seq (by rfl) T.len (by decide +kernel) (pa_cons (pv 0) pa_nil)) (nomark _))))))), ?_⟩
  have hs : sizeLine = 16777216 := by decide
  have hl : (nm.map V.str).length = nm.length := List.length_map _
  refine ⟨_, rfl, _, _, _, _, true, rfl, .ty "tuple", .base (.tup ha), kit_ty (by decide +kernel), _, rfl, ?_⟩
  refine ⟨_, rfl, a, _, rfl, .inr (SqT.of ha), _, _, rfl, rfl, _, rfl, ?_⟩
  rw [hl, decide_eq_false (by omega : ¬ (4 : Int) < (nm.length : Nat))]
  refine ⟨_, rfl, a, rfl, ⟨_, SqT.of ha⟩, ?_⟩
  intro D hD
  refine lc_tup (K := K) (a := a) (xs := nm.map V.str) (fun j H' => H' D = some (.lst ((List.replicate j true).map V.bl)) ∧ Same H H') ⟨upd_same, same_new hD _⟩ (fun j H' _ h => SqT.of (h.2 _ _ ha)) ?_ ?_
  · rintro j x H2 hx ⟨hD2, s2⟩
    obtain ⟨z, hz, rfl⟩ : ∃ z, nm[j]? = some z ∧ V.str z = x := by
      rw [List.getElem?_map] at hx
      obtain ⟨x', h1, h2⟩ := Option.map_eq_some_iff.mp hx
      exact ⟨x', h1, h2⟩
    have hj : j < nm.length := by
      obtain ⟨h1, _⟩ := List.getElem?_eq_some_iff.mp hz
      exact h1
    refine ⟨rfl, ?_⟩
    refine ⟨_, rfl, z, rfl, hok z (List.mem_of_getElem? hz), fun H3 s3 => ?_⟩
    refine ⟨_, s3 _ _ hD2, by rw [List.length_map, List.length_replicate]; omega, ?_, ?_⟩
    · rw [upd_same, List.replicate_succ', List.map_append]
      rfl
    · intro x o zz
      rw [upd_ne (ne_of_none zz hD)]
      exact s3 _ _ (s2 _ _ zz)
  · rintro H2 ⟨hD2, s2⟩
    refine ⟨D, _, rfl, SqL.of hD2, ?_⟩
    rw [all_true]
    refine ⟨_, rfl, ?_⟩
    refine ⟨_, rfl, a, nm, rfl, SqT.of (s2 _ _ ha), by omega, ?_⟩
    refine ⟨_, rfl, a, _, rfl, .inr (SqT.of (s2 _ _ ha)), rfl, ?_⟩
    rw [SHSet.dd_nd hnd, hl, decide_eq_true rfl]
    exact q H2 s2
theorem ok_areEx {f i : Addr} {fd idd : FuncData} {ds : List Value} (F : Fun K "are_expressions" "are_expressions" sAreEx f fd) (IE : Fk P w K mg base 9 "is_expression" i idd ["thing", "deepest"] (spIsEx 6)) (vE : Vals [V.int 6] ds) (bE : Binds K idd ["thing", "deepest"] ds) (T : Bi mg) (G : Gf K mg) (mt : mg "tuple" = none) :
    FnOk P w K mg base CX0 10 f fd ["thing"] spAreEx := by
  refine F.ok scAreEx (fun vs H Q E h => ?_) (fun cdv A outer s H vs Q E hr h => ?_)
  · obtain ⟨a, es, ws, rfl, _⟩ := h
    rfl
  obtain ⟨a, es, ws, rfl, ha, hT, h4, hok, q⟩ := h
  refine ⟨_, (pss_cons (ps_if (PW.pt (pw_or (pt_not (pt_val (pe_callB call_isi (by rfl) T.isinstance (by decide +kernel) (pa_cons (pv 0) (pa_cons (pe_bltn (v := .ty "tuple") (by rfl) mt (by decide +kernel) rfl) pa_nil))))) (pw_or1 (pt_cmpR op_gt (pe_callB call_len_seq (by rfl) T.len (by decide +kernel) (pa_cons (pv 0) pa_nil)) (pe_gi G.exprs) (nomark _)))))
      (pss_one (ps_ret pe_bl))
      pss_nil)
    (pss_one (ps_ret (pe_callB (cr_all rfl) (by rfl) T.all (by decide +kernel) (pa_cons (pe_lc (own := [("part", 1)]) (g := gName 1) (tt := tYes) (by rfl) scAreEx.nd (pi_tup (pv 0)) (blkOk_by (own := [("part", 1)]) (N := ["thing", "part"]) (sc := defScope sAreEx) (by decide +kernel)) (fun _ _ _ _ _ => pg_name (i := 1) scAreEx.nd rfl (Or.inl rfl)) (fun _ _ _ _ _ => pts_nil) (fun _ _ _ _ _ => (pe_call IE.G (hr.mono (by omega)) (by rfl) IE.m IE.k bE vE pass0 (pa_cons (pv 1) pa_nil)))) pa_nil))))), ?_⟩
  have hs : sizeLine = 16777216 := by decide
  have hl := hT.len
  refine ⟨_, rfl, _, _, _, _, true, rfl, .ty "tuple", .base (.tup ha), kit_ty (by decide +kernel), _, rfl, ?_⟩
  refine ⟨_, rfl, a, _, rfl, .inr (SqT.of ha), _, _, rfl, rfl, _, rfl, ?_⟩
  rw [hl, decide_eq_false (by omega : ¬ (4 : Int) < (es.length : Nat))]
  refine ⟨_, rfl, a, rfl, ⟨_, SqT.of ha⟩, ?_⟩
  intro D hD
  refine lc_tup (K := K) (a := a) (xs := ws) (fun j H' => H' D = some (.lst ((List.replicate j true).map V.bl)) ∧ Same H H') ⟨upd_same, same_new hD _⟩ (fun j H' _ h => SqT.of (h.2 _ _ ha)) ?_ ?_
  · rintro j x H2 hx ⟨hD2, s2⟩
    obtain ⟨e, he, te⟩ := hT.get_ hx
    have hj : j < es.length := by
      obtain ⟨h1, _⟩ := List.getElem?_eq_some_iff.mp he
      exact h1
    refine ⟨rfl, ?_⟩
    refine ⟨_, rfl, x, e, rfl, te.same s2, hok e (List.mem_of_getElem? he), fun H3 s3 => ?_⟩
    refine ⟨_, s3 _ _ hD2, by rw [List.length_map, List.length_replicate]; omega, ?_, ?_⟩
    · rw [upd_same, List.replicate_succ', List.map_append]
      rfl
    · intro x o zz
      rw [upd_ne (ne_of_none zz hD)]
      exact s3 _ _ (s2 _ _ zz)
  · rintro H2 ⟨hD2, s2⟩
    refine ⟨D, _, rfl, SqL.of hD2, ?_⟩
    rw [all_true]
    exact q H2 s2
theorem ok_ifHead {n : Nat} {f i t : Addr} {fd idd td : FuncData} {ds : List Value} (F : Fun K "is_if_head" "is_if_head" sIfHead f fd) (TO : Fk P w K mg base 1 "is_tuple_of" t td ["thing", "many"] spTupOf) (IE : Fk P w K mg base 9 "is_expression" i idd ["thing", "deepest"] (spIsEx 6)) (vE : Vals [V.int 6] ds) (bE : Binds K idd ["thing", "deepest"] ds) :
    FnOk P w K mg base CX0 10 f fd ["thing"] (spIfHead n) := by
  refine F.ok scIfHead (fun vs H Q E h => ?_) (fun cdv A outer s H vs Q E hr h => ?_)
  · obtain ⟨v, rs, r, rfl, _⟩ := h
    rfl
  obtain ⟨v, rs, r, rfl, hR, hok, q⟩ := h
  refine ⟨_, (pss_one (ps_ret (pe_and (pe_call TO.G (hr.mono (by omega)) (by rfl) TO.m TO.k TO.b .nil pass0 (pa_cons (pv 0) (pa_cons pe_int pa_nil))) (pe_and (pe_cmpR op_eq (pe_ix ix_tup (pv 0) pe_int (fun _ _ => rfl)) pe_str (nomark _)) (pe_one (pe_call IE.G (hr.mono (by omega)) (by rfl) IE.m IE.k bE vE pass0 (pa_cons (pe_ix ix_tup (pv 0) pe_int (fun _ _ => rfl)) pa_nil))))))), ?_⟩
  have q0 := q H (Same.refl H)
  cases rs with
  | nil => cases hR
  | put x e t =>
    obtain ⟨a, u, r', e1, ha, _⟩ := hR
    cases e1
    exact ⟨_, rfl, a, _, 4, rfl, ha, _, rfl, q0⟩
  | go b x g es t =>
    obtain ⟨a, p, ws, r', e1, ha, _⟩ := hR
    cases e1
    refine ⟨_, rfl, a, _, 4, rfl, ha, _, rfl, ?_⟩
    refine ⟨_, rfl, a, _, 0, _, rfl, rfl, SqT.of ha, atI_nat rfl, rfl, _, rfl, ?_⟩
    rw [decide_eq_false (by intro z; have := V.str.inj z; cases b <;> (revert this; decide +kernel))]
    exact q0
  | wait x y oe t =>
    obtain ⟨a, u, r', e1, ha, _⟩ := hR
    cases e1
    refine ⟨_, rfl, a, _, 4, rfl, ha, _, rfl, ?_⟩
    refine ⟨_, rfl, a, _, 0, _, rfl, rfl, SqT.of ha, atI_nat rfl, rfl, _, rfl, ?_⟩
    rw [decide_eq_false (by intro z; have := V.str.inj z; revert this; decide +kernel)]
    exact q0
  | iff e A B t =>
    obtain ⟨a, u, p, xs, p', ys, r', e1, ha, te, _⟩ := hR
    cases e1
    refine ⟨_, rfl, a, _, 4, rfl, ha, _, rfl, ?_⟩
    refine ⟨_, rfl, a, _, 0, _, rfl, rfl, SqT.of ha, atI_nat rfl, rfl, _, rfl, ?_⟩
    rw [decide_eq_true rfl]
    exact ⟨_, rfl, a, _, 1, _, rfl, rfl, SqT.of ha, atI_nat (j := 1) rfl, u, e, rfl, te, hok.2.1, q⟩
  | give b e t =>
    obtain ⟨a, u, r', e1, ha, _⟩ := hR
    cases e1
    exact ⟨_, rfl, a, _, 4, rfl, ha, _, rfl, q0⟩
theorem ok_plain {n : Nat} {f i t j k : Addr} {fd idd td jd kd : FuncData} {ds : List Value} (F : Fun K "is_plain_row" "is_plain_row" sPlain f fd) (TO : Fk P w K mg base 1 "is_tuple_of" t td ["thing", "many"] spTupOf) (IE : Fk P w K mg base 9 "is_expression" i idd ["thing", "deepest"] (spIsEx 6)) (vE : Vals [V.int 6] ds) (bE : Binds K idd ["thing", "deepest"] ds)
    (IN : Fk P w K mg base 1 "is_name" j jd ["thing"] spIsName) (AE : Fk P w K mg base 10 "are_expressions" k kd ["thing"] spAreEx) : FnOk P w K mg base CX0 11 f fd ["thing"] (spPlain n) := by
  refine F.ok scPlain (fun vs H Q E h => ?_) (fun cdv A outer s H vs Q E hr h => ?_)
  · obtain ⟨v, rs, r, rfl, _⟩ := h
    rfl
  obtain ⟨v, rs, r, rfl, hR, hok, hif, q⟩ := h
  refine ⟨_, (pss_cons (ps_if (pt_val (pe_call TO.G (hr.mono (by omega)) (by rfl) TO.m TO.k TO.b .nil pass0 (pa_cons (pv 0) (pa_cons pe_int pa_nil))))
      (pss_one (ps_ret (pe_and (pe_cmpR op_in_seq (pe_ix ix_tup (pv 0) pe_int (fun _ _ => rfl)) (pe_tup (pa_cons pe_str (pa_cons pe_str pa_nil))) rfl) (pe_one (pe_call IE.G (hr.mono (by omega)) (by rfl) IE.m IE.k bE vE pass0 (pa_cons (pe_ix ix_tup (pv 0) pe_int (fun _ _ => rfl)) pa_nil))))))
      pss_nil)
    (pss_cons (ps_if (pt_val (pe_call TO.G (hr.mono (by omega)) (by rfl) TO.m TO.k TO.b .nil pass0 (pa_cons (pv 0) (pa_cons pe_int pa_nil))))
      (pss_one (ps_ret (pe_and (pe_cmpR op_eq (pe_ix ix_tup (pv 0) pe_int (fun _ _ => rfl)) pe_str (nomark _)) (pe_and (pe_call IN.G (hr.mono (by omega)) (by rfl) IN.m IN.k IN.b .nil pass0 (pa_cons (pe_ix ix_tup (pv 0) pe_int (fun _ _ => rfl)) pa_nil)) (pe_one (pe_call IE.G (hr.mono (by omega)) (by rfl) IE.m IE.k bE vE pass0 (pa_cons (pe_ix ix_tup (pv 0) pe_int (fun _ _ => rfl)) pa_nil)))))))
      pss_nil)
    (pss_cons (ps_if (PW.pt (pw_or (pt_not (pt_val (pe_call TO.G (hr.mono (by omega)) (by rfl) TO.m TO.k TO.b .nil pass0 (pa_cons (pv 0) (pa_cons pe_int pa_nil))))) (pw_or (pt_not (pt_val (pe_call IN.G (hr.mono (by omega)) (by rfl) IN.m IN.k IN.b .nil pass0 (pa_cons (pe_ix ix_tup (pv 0) pe_int (fun _ _ => rfl)) pa_nil)))) (pw_or1 (pt_not (pt_val (pe_call IN.G (hr.mono (by omega)) (by rfl) IN.m IN.k IN.b .nil pass0 (pa_cons (pe_ix ix_tup (pv 0) pe_int (fun _ _ => rfl)) pa_nil))))))))
      (pss_one (ps_ret pe_bl))
      pss_nil)
    (pss_cons (ps_if (pt_cmpR op_eq (pe_ix ix_tup (pv 0) pe_int (fun _ _ => rfl)) pe_str (nomark _))
      (pss_one (ps_ret (pe_or (pe_cmpR op_isN (pe_ix ix_tup (pv 0) pe_int (fun _ _ => rfl)) pe_non (nomark _)) (pe_one (pe_call IE.G (hr.mono (by omega)) (by rfl) IE.m IE.k bE vE pass0 (pa_cons (pe_ix ix_tup (pv 0) pe_int (fun _ _ => rfl)) pa_nil))))))
      pss_nil)
    (pss_one (ps_ret (pe_and (pe_cmpR op_in_seq (pe_ix ix_tup (pv 0) pe_int (fun _ _ => rfl)) (pe_tup (pa_cons pe_str (pa_cons pe_str pa_nil))) rfl) (pe_one (pe_call AE.G (hr.mono (by omega)) (by rfl) AE.m AE.k AE.b .nil pass0 (pa_cons (pe_ix ix_tup (pv 0) pe_int (fun _ _ => rfl)) pa_nil)))))))))), ?_⟩
  cases rs with
  | nil => cases hR
  | put x e t =>
    obtain ⟨a, u, r', e1, ha, te, _⟩ := hR
    cases e1
    refine ⟨_, rfl, a, _, 2, rfl, ha, _, rfl, ?_⟩
    refine ⟨_, rfl, a, _, 3, rfl, ha, _, rfl, ?_⟩
    refine ⟨_, rfl, a, _, 0, _, rfl, rfl, SqT.of ha, atI_nat rfl, rfl, _, rfl, ?_⟩
    rw [decide_eq_true rfl]
    refine ⟨_, rfl, a, _, 1, _, rfl, rfl, SqT.of ha, atI_nat (j := 1) rfl, x, rfl, hok.1, fun H1 s1 => ⟨_, rfl, ?_⟩⟩
    exact ⟨_, rfl, a, _, 2, _, rfl, rfl, SqT.of (s1 _ _ ha), atI_nat (j := 2) rfl, u, e, rfl, te.same s1, hok.2.1, fun H2 s2 => q H2 (s1.trans s2)⟩
  | go b x g es t =>
    obtain ⟨a, p, ws, r', e1, ha, hp, ts, _⟩ := hR
    cases e1
    refine ⟨_, rfl, a, _, 2, rfl, ha, _, rfl, ?_⟩
    refine ⟨_, rfl, a, _, 3, rfl, ha, _, rfl, ?_⟩
    refine ⟨_, rfl, a, _, 4, rfl, ha, _, rfl, ?_⟩
    refine ⟨_, rfl, a, _, 1, _, rfl, rfl, SqT.of ha, atI_nat (j := 1) rfl, x, rfl, hok.1, fun H1 s1 => ⟨_, rfl, ?_⟩⟩
    refine ⟨_, rfl, a, _, 2, _, rfl, rfl, SqT.of (s1 _ _ ha), atI_nat (j := 2) rfl, g, rfl, hok.2.1, fun H2 s2 => ⟨_, rfl, ?_⟩⟩
    have s12 := s1.trans s2
    refine ⟨_, rfl, a, _, 0, _, rfl, rfl, SqT.of (s12 _ _ ha), atI_nat rfl, rfl, _, rfl, ?_⟩
    rw [decide_eq_false (by intro z; have := V.str.inj z; cases b <;> (revert this; decide +kernel))]
    refine iteF ?_
    refine ⟨_, rfl, a, _, 0, _, rfl, rfl, SqT.of (s12 _ _ ha), atI_nat rfl, (by show 2 ≤ sizeLine; decide), fun l hl => ?_⟩
    have s3 := same_new hl (.tup [.str "go", .str "call"])
    have ein : inV (.str (goW b)) [.str "go", .str "call"] = true := by cases b <;> decide +kernel
    refine ⟨l, _, rfl, .inr (SqT.of upd_same), rfl, rfl, _, rfl, ?_⟩
    rw [if_neg Bool.false_ne_true, ein]
    have s13 := s12.trans s3
    exact ⟨_, rfl, a, _, 3, _, rfl, rfl, SqT.of (s13 _ _ ha), atI_nat (j := 3) rfl, p, es, ws, rfl, s13 _ _ hp, ts.same s13, hok.2.2.1, hok.2.2.2.1, fun H4 s4 => q H4 (s13.trans s4)⟩
  | wait x y oe t =>
    obtain ⟨a, u, r', e1, ha, to, _⟩ := hR
    cases e1
    refine ⟨_, rfl, a, _, 2, rfl, ha, _, rfl, ?_⟩
    refine ⟨_, rfl, a, _, 3, rfl, ha, _, rfl, ?_⟩
    refine ⟨_, rfl, a, _, 4, rfl, ha, _, rfl, ?_⟩
    refine ⟨_, rfl, a, _, 1, _, rfl, rfl, SqT.of ha, atI_nat (j := 1) rfl, x, rfl, hok.1, fun H1 s1 => ⟨_, rfl, ?_⟩⟩
    refine ⟨_, rfl, a, _, 2, _, rfl, rfl, SqT.of (s1 _ _ ha), atI_nat (j := 2) rfl, y, rfl, hok.2.1, fun H2 s2 => ⟨_, rfl, ?_⟩⟩
    have s12 := s1.trans s2
    refine ⟨_, rfl, a, _, 0, _, rfl, rfl, SqT.of (s12 _ _ ha), atI_nat rfl, rfl, _, rfl, ?_⟩
    rw [decide_eq_true rfl]
    refine iteT ?_
    refine ⟨_, rfl, a, _, 3, _, rfl, rfl, SqT.of (s12 _ _ ha), atI_nat (j := 3) rfl, rfl, _, rfl, ?_⟩
    cases oe with
    | none =>
      cases to
      rw [decide_eq_true rfl]
      exact q H2 s12
    | some e =>
      have hne : ¬ u = V.non := fun z => by
        obtain ⟨a', xs', e', _⟩ := TrIn.tup to
        rw [z] at e'
        cases e'
      rw [decide_eq_false hne]
      exact ⟨_, rfl, a, _, 3, _, rfl, rfl, SqT.of (s12 _ _ ha), atI_nat (j := 3) rfl, u, e, rfl, TrIn.same s12 to, hok.2.2.1 e rfl, fun H3 s3 => q H3 (s12.trans s3)⟩
  | iff e A B t => cases hif
  | give b e t =>
    obtain ⟨a, u, r', e1, ha, te, _⟩ := hR
    cases e1
    refine ⟨_, rfl, a, _, 2, rfl, ha, _, rfl, ?_⟩
    refine ⟨_, rfl, a, _, 0, _, rfl, rfl, SqT.of ha, atI_nat rfl, (by show 2 ≤ sizeLine; decide), fun l hl => ?_⟩
    have s3 := same_new hl (.tup [.str "give", .str "fail"])
    have ein : inV (.str (giveW b)) [.str "give", .str "fail"] = true := by cases b <;> decide +kernel
    refine ⟨l, _, rfl, .inr (SqT.of upd_same), rfl, rfl, _, rfl, ?_⟩
    rw [if_neg Bool.false_ne_true, ein]
    exact ⟨_, rfl, a, _, 1, _, rfl, rfl, SqT.of (s3 _ _ ha), atI_nat (j := 1) rfl, u, e, rfl, te.same s3, hok.1, fun H4 s4 => q H4 (s3.trans s4)⟩
theorem ok_rowL {n k : Nat} {f i j b : Addr} {fd idd jd bd : FuncData} (hk : 11 ≤ k) (F : Fun K "row_left" "row_left" sRowL f fd) (IH : Fk P w K mg base 10 "is_if_head" i idd ["thing"] (spIfHead n)) (IP : Fk P w K mg base 11 "is_plain_row" j jd ["thing"] (spPlain n))
    (BL : 1 ≤ n → Fk P w K mg base k "branches_left" b bd ["row", "ifs", "left"] (spBranL (n - 1))) (mB : mg "branches_left" = some (.ref b)) (kB : PySem.W.keepIn K (.ref b) = true) (bB : Binds K bd ["row", "ifs", "left"] []) (G : Gf K mg) : FnOk P w K mg base CX0 (k + 1) f fd ["thing", "ifs", "left"] (spRowL n) := by
  refine F.ok scRowL (fun vs H Q E h => ?_) (fun cdv A outer s H vs Q E hr h => ?_)
  · obtain ⟨v, rs, r, l, rfl, _⟩ := h
    rfl
  obtain ⟨v, rs, r, l, rfl, hR, hok, hc, q⟩ := h
  have hpos := Rs.rc_pos hR
  have BG : ∃ sp, FnOk P w K mg base CX0 k b bd ["row", "ifs", "left"] sp ∧ (1 ≤ n → sp = spBranL (n - 1)) := by
    by_cases h1 : 1 ≤ n
    · exact ⟨_, (BL h1).G, fun _ => rfl⟩
    · refine ⟨fun _ _ _ _ => False, ⟨fun _ _ _ _ h => h.elim, fun _ _ _ _ _ _ _ _ _ _ _ _ _ h => h.elim⟩, fun z => absurd z h1⟩
  obtain ⟨spB, GB, eB⟩ := BG
  have BR : Fk P w K mg base k "branches_left" b bd ["row", "ifs", "left"] spB := ⟨GB, mB, kB, bB⟩
  refine ⟨_, (pss_cons (ps_if (pt_cmpR op_eq (pv 2) pe_int (nomark _))
      (pss_one (ps_ret (pe_gi G.norows)))
      pss_nil)
    (pss_cons (ps_if (pt_val (pe_call IH.G (hr.mono (by omega)) (by rfl) IH.m IH.k IH.b .nil pass0 (pa_cons (pv 0) pa_nil)))
      (pss_one (ps_ret (pe_ifExp (pt_cmpR op_eq (pv 1) pe_int (nomark _)) (pe_gi G.norows) (pe_call BR.G hr (by rfl) BR.m BR.k BR.b .nil pass0 (pa_cons (pv 0) (pa_cons (pe_op op_sub (pv 1) pe_int) (pa_cons (pe_op op_sub (pv 2) pe_int) pa_nil)))))))
      pss_nil)
    (pss_one (ps_ret (pe_ifExp (pt_val (pe_call IP.G (hr.mono (by omega)) (by rfl) IP.m IP.k IP.b .nil pass0 (pa_cons (pv 0) pa_nil))) (pe_op op_sub (pv 2) pe_int) (pe_gi G.norows)))))), ?_⟩
  refine ⟨_, rfl, rfl, _, rfl, ?_⟩
  rw [decide_eq_false (by intro z; have := V.int.inj z; omega)]
  refine iteF ?_
  refine ⟨_, rfl, v, rs, r, rfl, hR, hok, fun H1 s1 => ⟨_, rfl, ?_⟩⟩
  cases hi : rs.isIf with
  | false =>
    refine iteF ?_
    refine ⟨_, rfl, v, rs, r, rfl, hR.same s1, hok, hi, fun H2 s2 => ⟨_, rfl, ?_⟩⟩
    refine iteT ⟨_, rfl, _, _, rfl, rfl, ?_⟩
    have e1 : rs.rc = 1 := by
      cases rs with
      | nil => exact absurd hpos (by decide)
      | iff _ _ _ _ => cases hi
      | _ => rfl
    have e2 : (l : Int) - 1 = ((l - rs.rc : Nat) : Int) := by omega
    show Q (.int ((l : Int) - 1)) H2
    rw [e2]
    exact q H2 (s1.trans s2)
  | true =>
    refine iteT ?_
    cases rs with
    | iff e A B t =>
      obtain ⟨a, u, p, xs, p', ys, r', e1, ha, te, hp, hA, hp', hB, _⟩ := hR
      cases e1
      have hn : 1 ≤ n := hok.1
      have ec : (Rs.iff e A B t).rc = 1 + A.count + B.count := rfl
      refine ⟨_, rfl, rfl, _, rfl, ?_⟩
      rw [decide_eq_false (by intro z; have := V.int.inj z; omega)]
      refine iteF ?_
      have e2 : (l : Int) - 1 = ((l - 1 : Nat) : Int) := by omega
      have e3 : (n : Int) - 1 = ((n - 1 : Nat) : Int) := by omega
      refine ⟨_, rfl, _, rfl, _, _, rfl, rfl, _, rfl, _, _, rfl, rfl, ?_⟩
      rw [eB hn]
      refine ⟨a, p, p', u, A, B, xs, ys, l - 1, (by show [V.ref a, V.int ((n : Int) - 1), V.int ((l : Int) - 1)] = _; rw [e2, e3]), s1 _ _ ha, s1 _ _ hp, hA.same s1, s1 _ _ hp', hB.same s1, hok.2.2.1, hok.2.2.2.1, by omega, fun H2 s2 => ?_⟩
      have e4 : l - 1 - (A.count + B.count) = l - (Rs.iff e A B t).rc := by omega
      rw [e4]
      exact q H2 (s1.trans s2)
    | nil => cases hi
    | put _ _ _ => cases hi
    | go _ _ _ _ _ => cases hi
    | wait _ _ _ _ => cases hi
    | give _ _ _ => cases hi
theorem ok_branL {n k : Nat} {f r : Addr} {fd rd : FuncData} (F : Fun K "branches_left" "branches_left" sBranL f fd) (RL : Fk P w K mg base k "rows_left" r rd ["thing", "ifs", "left"] (spRowsL n)) (G : Gf K mg) : FnOk P w K mg base CX0 (k + 1) f fd ["row", "ifs", "left"] (spBranL n) := by
  refine F.ok scBranL (fun vs H Q E h => ?_) (fun cdv A outer s H vs Q E hr h => ?_)
  · obtain ⟨a, p, p', v, A, B, xs, ys, l, rfl, _⟩ := h
    rfl
  obtain ⟨a, p, p', v, A', B, xs, ys, l, rfl, ha, hp, hA, hp', hB, oA, oB, hc, q⟩ := h
  refine ⟨_, (pss_cons (ps_set (i := 2) scBranL.nd rfl (Or.inl rfl) (pe_call RL.G hr (by rfl) RL.m RL.k RL.b .nil pass0 (pa_cons (pe_ix ix_tup (pv 0) pe_int (fun _ _ => rfl)) (pa_cons (pv 1) (pa_cons (pv 2) pa_nil)))))
    (pss_one (ps_ret (pe_ifExp (pt_cmpR op_eq (pv 2) (pe_gi G.norows) (nomark _)) (pe_gi G.norows) (pe_call RL.G hr (by rfl) RL.m RL.k RL.b .nil pass0 (pa_cons (pe_ix ix_tup (pv 0) pe_int (fun _ _ => rfl)) (pa_cons (pv 1) (pa_cons (pv 2) pa_nil)))))))), ?_⟩
  refine ⟨_, rfl, a, _, 2, _, rfl, rfl, SqT.of ha, atI_nat (j := 2) rfl, _, rfl, _, rfl, p, A', xs, l, rfl, hp, hA, oA, by omega, fun H1 s1 => ?_⟩
  refine ⟨_, rfl, rfl, _, rfl, ?_⟩
  rw [decide_eq_false (by intro z; have := V.int.inj z; omega)]
  refine iteF ?_
  refine ⟨_, rfl, a, _, 3, _, rfl, rfl, SqT.of (s1 _ _ ha), atI_nat (j := 3) rfl, _, rfl, _, rfl, p', B, ys, l - A'.count, rfl, s1 _ _ hp', hB.same s1, oB, by omega, fun H2 s2 => ?_⟩
  have e4 : l - A'.count - B.count = l - (A'.count + B.count) := by omega
  rw [e4]
  exact q H2 (s1.trans s2)
theorem ok_rowsL {n k : Nat} {f r : Addr} {fd rd : FuncData} (F : Fun K "rows_left" "rows_left" sRowsL f fd) (RW : Fk P w K mg base k "row_left" r rd ["thing", "ifs", "left"] (spRowL n)) (T : Bi mg) (G : Gf K mg) (mt : mg "tuple" = none) : FnOk P w K mg base CX0 (k + 1) f fd ["thing", "ifs", "left"] (spRowsL n) := by
  refine F.ok scRowsL (fun vs H Q E h => ?_) (fun cdv A outer s H vs Q E hr h => ?_)
  · obtain ⟨p, rs, xs, l, rfl, _⟩ := h
    rfl
  obtain ⟨p, rs, xs, l, rfl, hp, hR, hok, hc, q⟩ := h
  refine ⟨_, (pss_cons (ps_if (pt_not (pt_val (pe_callB call_isi (by rfl) T.isinstance (by decide +kernel) (pa_cons (pv 0) (pa_cons (pe_bltn (v := .ty "tuple") (by rfl) mt (by decide +kernel) rfl) pa_nil)))))
      (pss_one (ps_ret (pe_gi G.norows)))
      pss_nil)
    (pss_cons (ps_for PassesOwn.never rfl (pi_tup (pv 0)) (pg_name (i := 3) scRowsL.nd rfl (.inl rfl))
      (pss_cons (ps_set (i := 2) scRowsL.nd rfl (Or.inl rfl) (pe_call RW.G hr (by rfl) RW.m RW.k RW.b .nil pass0 (pa_cons (pv 3) (pa_cons (pv 1) (pa_cons (pv 2) pa_nil)))))
    (pss_one (ps_if (pt_cmpR op_eq (pv 2) (pe_gi G.norows) (nomark _))
      (pss_one (ps_ret (pe_gi G.norows)))
      pss_nil))))
    (pss_one (ps_ret (pv 2))))), ?_⟩
  refine ⟨_, rfl, _, _, _, _, true, rfl, .ty "tuple", .base (.tup hp), kit_ty (by decide +kernel), _, rfl, ?_⟩
  refine ⟨_, rfl, p, rfl, ⟨_, SqT.of hp⟩, ?_⟩
  refine for_tup (K := K) (a := p) (xs := xs) (fun i σ H' => ∃ (rs' : Rs) (l' : Nat) (y : Option V), σ = [some (.ref p), some (.int n), some (.int l'), y] ∧ RsIn H' rs' (xs.drop i) ∧ Rs.ok n rs' ∧ rs'.count ≤ l' ∧ l' - rs'.count = l - rs.count ∧ Same H H') ?_ ?_ ?_ ?_
  · exact ⟨rs, l, none, rfl, hR, hok, hc, rfl, Same.refl H⟩
  · rintro i σ H' _ ⟨rs', l', y, _, _, _, _, _, s'⟩
    exact SqT.of (s' _ _ hp)
  · rintro i v σ H1 hv ⟨rs', l', y, rfl, hR', ok', hc', e', s1⟩
    have hd : xs.drop i = v :: xs.drop (i + 1) := by
      obtain ⟨hi, e⟩ := List.getElem?_eq_some_iff.mp hv
      rw [List.drop_eq_getElem_cons hi, e]
    rw [hd] at hR'
    have ce := rs'.count_eq
    refine ⟨_, rfl, _, rfl, _, rfl, v, rs', _, l', rfl, hR', ok', by omega, fun H2 s2 => ?_⟩
    refine ⟨_, rfl, rfl, _, rfl, ?_⟩
    rw [decide_eq_false (by intro z; have := V.int.inj z; omega)]
    refine iteF ?_
    exact ⟨rs'.tl, l' - rs'.rc, _, rfl, hR'.tl.same s2, Rs.ok_tl ok', by omega, by omega, s1.trans s2⟩
  · rintro σ H1 ⟨rs', l', y, rfl, hR', ok', hc', e', s1⟩
    rw [List.drop_length] at hR'
    have z : rs'.count = 0 := by
      cases rs' with
      | nil => rfl
      | put _ _ _ => obtain ⟨_, _, _, e, _⟩ := hR'; cases e
      | go _ _ _ _ _ => obtain ⟨_, _, _, _, e, _⟩ := hR'; cases e
      | wait _ _ _ _ => obtain ⟨_, _, _, e, _⟩ := hR'; cases e
      | iff _ _ _ _ => obtain ⟨_, _, _, _, _, _, _, e, _⟩ := hR'; cases e
      | give _ _ _ => obtain ⟨_, _, _, e, _⟩ := hR'; cases e
    refine ⟨_, rfl, ?_⟩
    rw [show l' = l - rs.count by omega]
    exact q H1 s1
theorem ok_isWork {f t i a v r : Addr} {fd td idd ad vd rd : FuncData} (F : Fun K "is_work" "is_work" sIsWork f fd) (TO : Fk P w K mg base 1 "is_tuple_of" t td ["thing", "many"] spTupOf) (IN : Fk P w K mg base 1 "is_name" i idd ["thing"] spIsName) (AN : Fk P w K mg base 2 "are_names" a ad ["thing"] spAreNames)
    (WI : Fk P w K mg base 2 "is_whole_within" v vd ["thing", "most"] spWithin) (RL : Fk P w K mg base 22 "rows_left" r rd ["thing", "ifs", "left"] (spRowsL 3)) (G : Gf K mg) : FnOk P w K mg base CX0 23 f fd ["thing"] spIsWork := by
  refine F.ok scIsWork (fun vs H Q E h => ?_) (fun cdv A outer s H vs Q E hr h => ?_)
  · obtain ⟨v, W, rfl, _⟩ := h
    rfl
  obtain ⟨v, W, rfl, ⟨a, pn, pr, xs, rfl, ha, hpn, hpr, hR⟩, ok, q⟩ := h
  refine ⟨_, (pss_cons (ps_if (PW.pt (pw_or (pt_not (pt_val (pe_call TO.G (hr.mono (by omega)) (by rfl) TO.m TO.k TO.b .nil pass0 (pa_cons (pv 0) (pa_cons pe_int pa_nil))))) (pw_or1 (pt_cmpR op_ne (pe_ix ix_tup (pv 0) pe_int (fun _ _ => rfl)) pe_str (nomark _)))))
      (pss_one (ps_ret pe_bl))
      pss_nil)
    (pss_cons (ps_asg (pe_slice sl_tup (pv 0) (po_some pe_int) po_none) (pg_tup rfl (pgs_cons (pg_name (i := 1) scIsWork.nd rfl (.inl rfl)) (pgs_cons (pg_name (i := 2) scIsWork.nd rfl (.inl rfl)) (pgs_cons (pg_name (i := 3) scIsWork.nd rfl (.inl rfl)) (pgs_cons (pg_name (i := 4) scIsWork.nd rfl (.inl rfl)) pgs_nil))))))
    (pss_cons (ps_if (PW.pt (pw_or (pt_not (pt_val (pe_call IN.G (hr.mono (by omega)) (by rfl) IN.m IN.k IN.b .nil pass0 (pa_cons (pv 1) pa_nil)))) (pw_or (pt_not (pt_val (pe_call AN.G (hr.mono (by omega)) (by rfl) AN.m AN.k AN.b .nil pass0 (pa_cons (pv 2) pa_nil)))) (pw_or1 (pt_not (pt_val (pe_call WI.G (hr.mono (by omega)) (by rfl) WI.m WI.k WI.b .nil pass0 (pa_cons (pv 3) (pa_cons (pe_gi G.room) pa_nil)))))))))
      (pss_one (ps_ret pe_bl))
      pss_nil)
    (pss_one (ps_ret (pe_cmpR op_ne (pe_call RL.G (hr.mono (by omega)) (by rfl) RL.m RL.k RL.b .nil pass0 (pa_cons (pv 4) (pa_cons (pe_gi G.ifs) (pa_cons (pe_gi G.rows) pa_nil)))) (pe_gi G.norows) (nomark _))))))), ?_⟩
  refine ⟨_, rfl, a, _, 5, rfl, ha, _, rfl, ?_⟩
  refine ⟨_, rfl, a, _, 0, _, rfl, rfl, SqT.of ha, atI_nat rfl, rfl, _, rfl, ?_⟩
  refine iteNS rfl ?_
  refine ⟨_, rfl, 1, rfl, a, _, rfl, SqT.of ha, (show ¬ (HT.sIx 5 0 (some 1) = 0 ∧ HT.sIx 5 5 none = 5) by decide), fun p hp => ?_⟩
  have s1 := same_new hp (.tup [.str W.name, .ref pn, .int W.room, .ref pr])
  refine ⟨p, _, rfl, SqT.of upd_same, rfl, _, _, rfl, _, _, rfl, _, _, rfl, _, _, rfl, rfl, ?_⟩
  refine ⟨_, rfl, W.name, rfl, ok.name, fun H2 s2 => ⟨_, rfl, ?_⟩⟩
  have s12 := s1.trans s2
  refine ⟨_, rfl, pn, W.names, rfl, s12 _ _ hpn, ok.few, ok.names, ok.nd, fun H3 s3 => ⟨_, rfl, ?_⟩⟩
  have s13 := s12.trans s3
  refine ⟨_, rfl, W.room, 1000, rfl, ok.room0, ok.room1, _, rfl, ?_⟩
  refine ⟨_, rfl, pr, W.rows, xs, 40, rfl, s13 _ _ hpr, hR.same s13, ok.rows, ok.count, fun H4 s4 => ⟨rfl, ?_⟩⟩
  rw [decide_eq_false (by intro z; have := V.int.inj z; omega)]
  exact q H4 (s13.trans s4)
theorem ok_chkWork {f i : Addr} {fd idd : FuncData} (F : Fun K "check_work" "check_work" sChkWork f fd) (IW : Fk P w K mg base 23 "is_work" i idd ["thing"] spIsWork) : FnOk P w K mg base CX0 24 f fd ["thing"] spChkWork := by
  refine F.ok scChkWork (fun vs H Q E h => ?_) (fun cdv A outer s H vs Q E hr h => ?_)
  · obtain ⟨v, W, rfl, _⟩ := h
    rfl
  obtain ⟨v, W, rfl, hW, ok, q⟩ := h
  refine ⟨_, (pss_one (ps_if (pt_not (pt_val (pe_call IW.G (hr.mono (by omega)) (by rfl) IW.m IW.k IW.b .nil pass0 (pa_cons (pv 0) pa_nil))))
      (pss_one ps_never)
      pss_nil)), ?_⟩
  exact ⟨_, rfl, v, W, rfl, hW, ok, fun H1 s1 => ⟨_, rfl, q H1 s1⟩⟩
end
end SH

set_option Elab.async false
set_option linter.all false
set_option maxRecDepth 100000
namespace SH
open PySem L2
/-- over a list that stays -/
theorem txc_list {Pr : Program} {w : World} {K : PySem.W.Frag} {a : Addr} {xs : List V} {g : TG} {te : TE} {vs : List Nat} {σ : St} {H1 : Hp} {D : Addr} {Qd : Hp → Prop} (Pv : Nat → Hp → Prop) (h0 : Pv 0 (upd H1 D (TxtO Pr w D []))) (hl : ∀ i H, i ≤ xs.length → Pv i H → SqL K H a xs)
    (hs : ∀ i x H, xs[i]? = some x → Pv i H → g x (wipe σ vs) H fun σ2 H2 => wipe σ2 vs = wipe σ vs ∧ te σ2 H2 fun y H4 => ∃ (z : Str) (l : List Str), y = .str z ∧ H4 D = some (TxtO Pr w D l) ∧ l.length + 1 < scanBound ∧ Pv (i + 1) (upd H4 D (TxtO Pr w D (SHSet.addT l z)))) (hd : ∀ H, Pv xs.length H → Qd H) :
    ∃ W : Nat → Nat → Hp → Prop, (∃ m, W 0 m (upd H1 D (TxtO Pr w D []))) ∧ ∀ i m H, W i m H → ((Itl K a).stop i H ∧ Qd H) ∨ ((Itl K a).go i H ∧ ∃ Nx : Hp → Prop, (∀ H', Nx H' → ∃ m', m' < m ∧ W (i + 1) m' H') ∧
      ∀ x H', (Itl K a).yld i H x H' → g x (wipe σ vs) H' fun σ2 H2 => wipe σ2 vs = wipe σ vs ∧ te σ2 H2 fun y H4 => ∃ (z : Str) (l : List Str), y = .str z ∧ H4 D = some (TxtO Pr w D l) ∧ l.length + 1 < scanBound ∧ Nx (upd H4 D (TxtO Pr w D (SHSet.addT l z)))) := by
  refine ⟨fun i m H => m + i = xs.length ∧ Pv i H, ⟨xs.length, Nat.add_zero _, h0⟩, ?_⟩
  rintro i m H ⟨e, p⟩
  have q := hl i H (by omega) p
  rcases Nat.eq_zero_or_pos m with z | z
  · exact .inl ⟨⟨xs, q, by omega⟩, hd H (by rw [show xs.length = i by omega]; exact p)⟩
  · have lt : i < xs.length := by omega
    exact .inr ⟨⟨xs, xs[i], q, List.getElem?_eq_getElem lt⟩, Pv (i + 1), fun H' p' => ⟨m - 1, by omega, by omega, p'⟩, fun x H' y => y.1 ▸ hs i x H (y.2 xs q) p⟩
theorem dc_list {K : PySem.W.Frag} {a : Addr} {xs : List V} {g : TG} {tk tv : TE} {vs : List Nat} {σ : St} {H1 : Hp} {D : Addr} {Qd : Hp → Prop} (Pv : Nat → Hp → Prop) (h0 : Pv 0 (upd H1 D (.dK []))) (hl : ∀ i H, i ≤ xs.length → Pv i H → SqL K H a xs)
    (hs : ∀ i x H, xs[i]? = some x → Pv i H → g x (wipe σ vs) H fun σ2 H2 => wipe σ2 vs = wipe σ vs ∧ tYes σ2 H2 fun b H3 => if b = true then tk σ2 H3 fun y H4 => tv σ2 H4 fun z H5 => ∃ kvs k, y = kV k ∧ H5 D = some (.dK kvs) ∧ kvs.length < sizeLine ∧ Pv (i + 1) (upd H5 D (.dK (putK kvs k z))) else Pv (i + 1) H3) (hd : ∀ H, Pv xs.length H → Qd H) :
    ∃ W : Nat → Nat → Hp → Prop, (∃ m, W 0 m (upd H1 D (.dK []))) ∧ ∀ i m H, W i m H → ((Itl K a).stop i H ∧ Qd H) ∨ ((Itl K a).go i H ∧ ∃ Nx : Hp → Prop, (∀ H', Nx H' → ∃ m', m' < m ∧ W (i + 1) m' H') ∧
      ∀ x H', (Itl K a).yld i H x H' → g x (wipe σ vs) H' fun σ2 H2 => wipe σ2 vs = wipe σ vs ∧ tYes σ2 H2 fun b H3 => if b = true then tk σ2 H3 fun y H4 => tv σ2 H4 fun z H5 => ∃ kvs k, y = kV k ∧ H5 D = some (.dK kvs) ∧ kvs.length < sizeLine ∧ Nx (upd H5 D (.dK (putK kvs k z))) else Nx H3) := by
  refine ⟨fun i m H => m + i = xs.length ∧ Pv i H, ⟨xs.length, Nat.add_zero _, h0⟩, ?_⟩
  rintro i m H ⟨e, p⟩
  have q := hl i H (by omega) p
  rcases Nat.eq_zero_or_pos m with z | z
  · exact .inl ⟨⟨xs, q, by omega⟩, hd H (by rw [show xs.length = i by omega]; exact p)⟩
  · have lt : i < xs.length := by omega
    exact .inr ⟨⟨xs, xs[i], q, List.getElem?_eq_getElem lt⟩, Pv (i + 1), fun H' p' => ⟨m - 1, by omega, by omega, p'⟩, fun x H' y => y.1 ▸ hs i x H (y.2 xs q) p⟩
/-! ### rows one behind another -/
def Rs.app : Rs → Rs → Rs
  | .nil, b => b
  | .put x e t, b => .put x e (t.app b)
  | .go w x f es t, b => .go w x f es (t.app b)
  | .wait x y e t, b => .wait x y e (t.app b)
  | .iff e p q t, b => .iff e p q (t.app b)
  | .give w e t, b => .give w e (t.app b)
theorem Rs.app_starts (b : Rs) : ∀ a : Rs, (a.app b).starts = a.starts ++ b.starts
  | .nil => rfl
  | .put _ _ t => Rs.app_starts b t
  | .go _ _ f es t => by show (f, es.length) :: (t.app b).starts = _; rw [Rs.app_starts b t]; rfl
  | .wait _ _ _ t => Rs.app_starts b t
  | .iff _ p q t => by show p.starts ++ q.starts ++ (t.app b).starts = p.starts ++ q.starts ++ t.starts ++ b.starts; rw [Rs.app_starts b t, List.append_assoc (p.starts ++ q.starts)]
  | .give _ _ t => Rs.app_starts b t
theorem Rs.app_ok {n : Nat} {b : Rs} (hb : Rs.ok n b) : ∀ {a : Rs}, Rs.ok n a → Rs.ok n (a.app b)
  | .nil, _ => hb
  | .put _ _ _, h => ⟨h.1, h.2.1, Rs.app_ok hb h.2.2⟩
  | .go _ _ _ _ _, h => ⟨h.1, h.2.1, h.2.2.1, h.2.2.2.1, Rs.app_ok hb h.2.2.2.2⟩
  | .wait _ _ _ _, h => ⟨h.1, h.2.1, h.2.2.1, Rs.app_ok hb h.2.2.2⟩
  | .iff _ _ _ _, h => ⟨h.1, h.2.1, h.2.2.1, h.2.2.2.1, Rs.app_ok hb h.2.2.2.2⟩
  | .give _ _ _, h => ⟨h.1, Rs.app_ok hb h.2⟩
theorem RsIn.app {H : Hp} {b : Rs} {ys : List V} (hb : RsIn H b ys) : ∀ {a : Rs} {xs : List V}, RsIn H a xs → RsIn H (a.app b) (xs ++ ys)
  | .nil, _, h => by cases h; exact hb
  | .put _ _ _, _, ⟨a, v, r, e, k, t, q⟩ => by cases e; exact ⟨a, v, _, rfl, k, t, RsIn.app hb q⟩
  | .go _ _ _ _ _, _, ⟨a, p, ws, r, e, k, k2, t, q⟩ => by cases e; exact ⟨a, p, ws, _, rfl, k, k2, t, RsIn.app hb q⟩
  | .wait _ _ _ _, _, ⟨a, v, r, e, k, t, q⟩ => by cases e; exact ⟨a, v, _, rfl, k, t, RsIn.app hb q⟩
  | .iff _ _ _ _, _, ⟨a, v, p, xs, p', ys, r, e, k, t, k1, q1, k2, q2, q⟩ => by cases e; exact ⟨a, v, p, xs, p', ys, _, rfl, k, t, k1, q1, k2, q2, RsIn.app hb q⟩
  | .give _ _ _, _, ⟨a, v, r, e, k, t, q⟩ => by cases e; exact ⟨a, v, _, rfl, k, t, RsIn.app hb q⟩
theorem RsIn.len {H : Hp} : ∀ {a : Rs} {xs : List V}, RsIn H a xs → xs.length ≤ a.count
  | .nil, _, h => by cases h; exact Nat.le_refl _
  | .put _ _ t, _, ⟨a, v, r, e, k, _, q⟩ => by cases e; have := RsIn.len q; show _ + 1 ≤ 1 + t.count; omega
  | .go _ _ _ _ t, _, ⟨a, p, ws, r, e, k, k2, _, q⟩ => by cases e; have := RsIn.len q; show _ + 1 ≤ 1 + t.count; omega
  | .wait _ _ _ t, _, ⟨a, v, r, e, k, _, q⟩ => by cases e; have := RsIn.len q; show _ + 1 ≤ 1 + t.count; omega
  | .iff _ A B t, _, ⟨a, v, p, xs, p', ys, r, e, k, _, k1, q1, k2, q2, q⟩ => by cases e; have := RsIn.len q; show _ + 1 ≤ 1 + A.count + B.count + t.count; omega
  | .give _ _ t, _, ⟨a, v, r, e, k, _, q⟩ => by cases e; have := RsIn.len q; show _ + 1 ≤ 1 + t.count; omega
theorem Rs.starts_le : ∀ a : Rs, a.starts.length ≤ a.count
  | .nil => Nat.le_refl _
  | .put _ _ t => by have := Rs.starts_le t; show t.starts.length ≤ 1 + t.count; omega
  | .go _ _ _ _ t => by have := Rs.starts_le t; show t.starts.length + 1 ≤ 1 + t.count; omega
  | .wait _ _ _ t => by have := Rs.starts_le t; show t.starts.length ≤ 1 + t.count; omega
  | .iff _ a b t => by
    have := Rs.starts_le t; have := Rs.starts_le a; have := Rs.starts_le b
    show (a.starts ++ b.starts ++ t.starts).length ≤ 1 + a.count + b.count + t.count
    rw [List.length_append, List.length_append]; omega
  | .give _ _ t => by have := Rs.starts_le t; show t.starts.length ≤ 1 + t.count; omega
theorem Rs.app_count (b : Rs) : ∀ a : Rs, (a.app b).count = a.count + b.count
  | .nil => (Nat.zero_add _).symm
  | .put _ _ t => by show 1 + (t.app b).count = 1 + t.count + b.count; rw [Rs.app_count b t]; omega
  | .go _ _ _ _ t => by show 1 + (t.app b).count = 1 + t.count + b.count; rw [Rs.app_count b t]; omega
  | .wait _ _ _ t => by show 1 + (t.app b).count = 1 + t.count + b.count; rw [Rs.app_count b t]; omega
  | .iff _ p q t => by show 1 + p.count + q.count + (t.app b).count = 1 + p.count + q.count + t.count + b.count; rw [Rs.app_count b t]; omega
  | .give _ _ t => by show 1 + (t.app b).count = 1 + t.count + b.count; rw [Rs.app_count b t]; omega
/-! ### goes and calls as they lie -/
def StAt (H : Hp) (st : Str × Nat) (v : V) : Prop := ∃ (a : Addr) (wd x : V) (p : Addr) (ws : List V), v = .ref a ∧ H a = some (.tup [wd, x, .str st.1, .ref p]) ∧ H p = some (.tup ws) ∧ ws.length = st.2
theorem StAt.same {H H' : Hp} {st : Str × Nat} {v : V} (h : Same H H') : StAt H st v → StAt H' st v
  | ⟨a, wd, x, p, ws, e, k1, k2, l⟩ => ⟨a, wd, x, p, ws, e, h _ _ k1, h _ _ k2, l⟩
def StsAt (H : Hp) (sts : List (Str × Nat)) (vs : List V) : Prop := vs.length = sts.length ∧ ∀ (i : Nat) (st : Str × Nat) (v : V), sts[i]? = some st → vs[i]? = some v → StAt H st v
theorem StsAt.same {H H' : Hp} {sts : List (Str × Nat)} {vs : List V} (h : Same H H') (q : StsAt H sts vs) : StsAt H' sts vs := ⟨q.1, fun i st v a b => (q.2 i st v a b).same h⟩
theorem StsAt.app {H : Hp} {s1 s2 : List (Str × Nat)} {v1 v2 : List V} (a : StsAt H s1 v1) (b : StsAt H s2 v2) : StsAt H (s1 ++ s2) (v1 ++ v2) := by
  refine ⟨by rw [List.length_append, List.length_append, a.1, b.1], fun i st v h1 h2 => ?_⟩
  by_cases hi : i < s1.length
  · rw [List.getElem?_append_left hi] at h1
    rw [List.getElem?_append_left (by rw [a.1]; exact hi)] at h2
    exact a.2 i st v h1 h2
  · rw [List.getElem?_append_right (by omega)] at h1
    rw [List.getElem?_append_right (by rw [a.1]; omega), a.1] at h2
    exact b.2 _ st v h1 h2
theorem StsAt.one {H : Hp} {st : Str × Nat} {v : V} (h : StAt H st v) : StsAt H [st] [v] := ⟨rfl, fun i st' v' h1 h2 => by
  cases i with
  | zero => cases h1; cases h2; exact h
  | succ i => simp at h1⟩
theorem StAt.upd_lst {H : Hp} {b : Addr} {ys zs : List V} (hb : H b = some (.lst ys)) {st : Str × Nat} {v : V} : StAt H st v → StAt (upd H b (.lst zs)) st v
  | ⟨a, wd, x, p, ws, e, k1, k2, l⟩ => ⟨a, wd, x, p, ws, e, by rw [upd_ne (lst_ne k1 hb)]; exact k1, by rw [upd_ne (lst_ne k2 hb)]; exact k2, l⟩
theorem StsAt.upd_lst {H : Hp} {b : Addr} {ys zs : List V} (hb : H b = some (.lst ys)) {sts : List (Str × Nat)} {vs : List V} (q : StsAt H sts vs) : StsAt (upd H b (.lst zs)) sts vs := ⟨q.1, fun i st v a c => (q.2 i st v a c).upd_lst hb⟩
def WksIn (H : Hp) (Ws : List Wk) (vs : List V) : Prop := vs.length = Ws.length ∧ ∀ (i : Nat) (v : V), vs[i]? = some v → ∃ W, Ws[i]? = some W ∧ WkIn H W v
theorem WksIn.same {H H' : Hp} {Ws : List Wk} {vs : List V} (h : Same H H') (q : WksIn H Ws vs) : WksIn H' Ws vs := ⟨q.1, fun i v e => by
  obtain ⟨W, a, b⟩ := q.2 i v e
  exact ⟨W, a, b.same h⟩⟩
structure WksOk (Ws : List Wk) : Prop where
  few : Ws.length ≤ 12
  each : ∀ W ∈ Ws, W.ok
  nd : (Ws.map Wk.name).Nodup
  starts : ∀ W ∈ Ws, ∀ st ∈ W.rows.starts, ∃ W' ∈ Ws, W'.name = st.1 ∧ W'.names.length = st.2
def spChkWorks : Sp := fun vs H Q _ => ∃ (l : Addr) (us : List V) (Ws : List Wk), vs = [.ref l] ∧ H l = some (.lst us) ∧ WksIn H Ws us ∧ WksOk Ws ∧ ∀ H', Same H H' → Q .non H'
def spStartsIn (n : Nat) : Sp := fun vs H Q _ => ∃ (p : Addr) (xs : List V) (rs : Rs), vs = [.ref p] ∧ H p = some (.tup xs) ∧ RsIn H rs xs ∧ Rs.ok n rs ∧ rs.count ≤ 1000 ∧
  ∀ (l : Addr) (ss : List V) (H' : Hp), Same H H' → H l = none → H' l = some (.lst ss) → StsAt H' rs.starts ss → Q (.ref l) H'
section
variable {P : Program} {w : World} {K : PySem.W.Frag} {mg : Str → Option Value} {base : Heap}
end
end SH

set_option Elab.async false
set_option linter.all false
set_option maxRecDepth 100000
namespace SH
open PySem PySem.Spec PyProof.Rows L2
section
variable {X : Cx}
/-- y = {k: v for x in xs} -/
theorem ps_setDc {i : Nat} {y : PySem.Str} {py : Pos} {kx vx tg iter : Expr} {scope : Scope} {own : List (PySem.Str × Nat)} {pos spos : Pos} {wi : TI} {g : TG} {tk tv : TE} (quiet : X.calm = true) (ndN : X.N.Nodup) (hy : X.N[i]? = some y) (yl : X.env.scope.names.lookup y = some .local)
    (swap : swapsWith (.DictComp kx vx [⟨tg, iter, [], 0⟩] scope pos) (some (.Name y py)) spos.line X.env = pure true) (hi : PI X tg iter wi) (ok : BlkOk X.N X.env.scope scope own)
    (hg : ∀ (s : Shared) (H : Hp) (C : Addr) (cl : List (PySem.Str × Addr)) (fp : List Addr), PG (X.blk s H scope (compEnvC scope cl C X.env) fp) tg g)
    (hk : ∀ (s : Shared) (H : Hp) (C : Addr) (cl : List (PySem.Str × Addr)) (fp : List Addr), PE (X.blk s H scope (compEnvC scope cl C X.env) fp) kx tk)
    (hv : ∀ (s : Shared) (H : Hp) (C : Addr) (cl : List (PySem.Str × Addr)) (fp : List Addr), PE (X.blk s H scope (compEnvC scope cl C X.env) fp) vx tv) (fold : ∀ x, foldedSetIterable iter X.env x = pure x := by intro _; rfl) :
    PS X (.Assign [.Name y py] (.DictComp kx vx [⟨tg, iter, [], 0⟩] scope pos) spos) (tAsg (tDc wi g tYes tk tv (own.map (·.2))) (gName i)) := by
  refine ⟨fun pins s σ H D I h => ?_⟩
  rw [exec_Assign_Name_used _ _ _ _ swap]
  refine wpAny_bind (wpAny_standAt (wpAny_bind (show wpAny _ X.A (do let _ ← comprehension (.DictComp kx vx [⟨tg, iter, [], 0⟩] scope pos) scope X.env (firstIterPos [⟨tg, iter, [], 0⟩] pos) newDict false (eval iter X.env) (some (assign (.Name y py) X.env))) _ _ s from ?_)))
  refine wpAny_bind (thn (dc_core (Q := fun x H1 => gName i x σ H1 D.nx) (Qf := fun _ z => SP X pins D .next z) quiet ndN I hi ok hg (fun _ _ _ _ _ => pts_nil) hk hv fold h fun L C z m H' J q hn f => ?_) fun _ z hq => wpAny_pure (wpAny_pure hq))
  refine (show wpAny _ _ (assign (.Name y py) X.env (.ref L)) _ _ _ from wpAny_assign_Name (store_ok2 (v := V.ref L) J ndN hy (.inl yl) rfl (fun u J2 ⟨a, sb, ha⟩ => ?_) (.inr yl)))
  have other : C ≠ a := ha.elim (fun e => e ▸ f.2.1) fun e k => f.2.2.2.2.1 y a e k.symm
  exact ⟨m, hn.sameBut sb other, fun k sk => ⟨_, H', J2.turned (t' := u.toks) (fun b o hb e => (sk.2 b hb).trans e) f.1 f.2.1 f.2.2.2.1 f.2.2.2.2.1 f.2.2.2.2.2, q⟩⟩
theorem sw_dict {kx vx : Expr} {gs : List Comprehension} {scope : Scope} {pos py : Pos} {y : PySem.Str} {l : Nat} {env : Env} (hk : env.scope.kind = .function) (hy : env.scope.names.lookup y = some .local) (hl : (py.line == pos.line) = true)
    (ha : (scope.names.any fun (n, k) => n == y && (k == .local || k == .cell)) = false) : swapsWith (.DictComp kx vx gs scope pos) (some (.Name y py)) l env = pure true := by
  have k1 : env.kindOf y = some .local := hy
  have k2 : env.blockKind = .function := by unfold Env.blockKind; rw [hk]; rfl
  unfold swapsWith
  simp only [k2, k1, ha, Expr.pos, hl]
  rfl
/-- str(x) by an own __str__ -/
def rStrOwn (C : Addr) (sp : Sp) : List V → Hp → VK → Prop := fun xs H Q => ∃ (a dx : Addr) (fs : List (PySem.Str × V)), xs = [V.ref a] ∧ H a = some (.ins C dx fs) ∧ sp [.ref a] H (fun v H' => ∃ z, v = .str z ∧ Q v H') E0
theorem call_strOwn {C g : Addr} {gd : FuncData} {n : Nat} {sp : Sp} (hs : PySem.W.findIn X.K (.ref C) "__str__" = some (some (.ref g))) (hf : PySem.W.isFn X.K (.ref g) = true) (F : FnOk X.prog X.w X.K X.mg X.base CX0 n g gd ["self"] sp) (hb : Binds X.K gd ["self"] []) (hr : Room (n + 2) X.A) : CallR X (.type "str") (rStrOwn C sp) := by
  intro pins s σ H xs us Q I r h
  obtain ⟨a, dx, fs, rfl, ha, q⟩ := h
  obtain ⟨u, rfl, ru⟩ := vals1 r
  cases ru
  obtain ⟨mA, om, _⟩ := ins_get I.hok ha
  obtain ⟨od, J, _⟩ := om.look
  have room : Room n X.A.in1.in1 := (show Room (n + 1) X.A.in1 from Room.in1 hr).in1
  have hu : X.A.in1.in1.units < cLine := by have := room.un; omega
  have rv : Vals [V.ref a] [Value.ref a] := .cons rfl .nil
  refine PySem.W.kso_call hu I.kIn J hs hf (wpAny_call (codeAny_mono (F.run X.A.in1.in1 X.stack s H ⟨[.ref a], []⟩ [.ref a] [.ref a] _ E0 room I.env0.in1.in1 (hb s [.ref a] I.kIn rfl) rv q) fun r z hq => ?_))
  cases r with
  | error e => exact hq.elim
  | ok fl =>
    cases fl with
    | ret v =>
      obtain ⟨y, H', J2, ry, t, ey, fin⟩ := I.after hq
      subst ey
      obtain ⟨tk, rfl⟩ := (show ∃ tk, v = Value.str t tk from ry)
      exact ⟨.str t, H', J2, ⟨tk, rfl⟩, fin⟩
    | _ => exact False.elim hq
end
end SH

set_option Elab.async false
set_option linter.all false
set_option maxRecDepth 100000
namespace SH
open PySem L2
def spChkStarts : Sp := fun vs H Q _ => ∃ (l : Addr) (us : List V) (Ws : List Wk), vs = [.ref l] ∧ H l = some (.lst us) ∧ WksIn H Ws us ∧ WksOk Ws ∧ ∀ H', Same H H' → Q .non H'
def spBookInit (C : Addr) : Sp := fun vs H Q _ => ∃ (x dx l : Addr) (us : List V) (Ws : List Wk), vs = [.ref x, .ref l] ∧ H x = some (.ins C dx []) ∧ H l = some (.lst us) ∧ WksIn H Ws us ∧ WksOk Ws ∧
  ∀ (p : Addr) (H' : Hp), (∀ b o, H b = some o → b ≠ x → H' b = some o) → H p = none → H' p = some (.tup us) → H' x = some (.ins C dx [("works", .ref p)]) → Q .non H'
/-- what the module says of Book -/
structure BkT (K : PySem.W.Frag) (mg : Str → Option Value) (C : Addr) : Prop where
  cl : Cls K C
  nW : PySem.W.findIn K (.ref C) "works" = some none
  mgC : mg "Book" = some (.ref C)
/-- a book of these works -/
def BkIn (H : Hp) (C x : Addr) (Ws : List Wk) : Prop := ∃ (dx p : Addr) (us : List V), H x = some (.ins C dx [("works", .ref p)]) ∧ H p = some (.tup us) ∧ WksIn H Ws us
theorem BkIn.same {H H' : Hp} {C x : Addr} {Ws : List Wk} (h : Same H H') : BkIn H C x Ws → BkIn H' C x Ws
  | ⟨dx, p, us, k1, k2, q⟩ => ⟨dx, p, us, h _ _ k1, h _ _ k2, q.same h⟩
/-- the dict of how many names each work is handed -/
def HandAt (H : Hp) (D : Addr) (Ws : List Wk) : Prop := ∃ kvs : List (Key × V), H D = some (.dK kvs) ∧ ∀ (i : Nat) (W : Wk), Ws[i]? = some W → valV kvs (Sum.inr W.name) = some (.int (W.names.length : Nat))
theorem HandAt.same {H H' : Hp} {D : Addr} {Ws : List Wk} (h : Same H H') : HandAt H D Ws → HandAt H' D Ws
  | ⟨kvs, a, b⟩ => ⟨kvs, h _ _ a, b⟩
def spHanded : Sp := fun vs H Q _ => ∃ (l : Addr) (us : List V) (Ws : List Wk), vs = [.ref l] ∧ H l = some (.lst us) ∧ WksIn H Ws us ∧ WksOk Ws ∧ ∀ D H', Same H H' → H D = none → HandAt H' D Ws → Q (.ref D) H'
def spChkStart : Sp := fun vs H Q _ => ∃ (u : V) (D : Addr) (Ws : List Wk) (st : Str × Nat), vs = [u, .ref D] ∧ HandAt H D Ws ∧ StAt H st u ∧ (∃ W' ∈ Ws, W'.name = st.1 ∧ W'.names.length = st.2) ∧ Q .non H
section
variable {P : Program} {w : World} {K : PySem.W.Frag} {mg : Str → Option Value} {base : Heap}
end
end SH

set_option Elab.async false
set_option linter.all false
set_option maxRecDepth 100000
namespace SH
open PySem L2
abbrev sRow : Stmt := topS 47
abbrev sRows : Stmt := topS 48
theorem scRow : FnScope ["_law_bag_here", "_law_state", "_law_nested", "_law_names_here", "_law_titles", "_law_one", "_law_other", "_law_way", "_law_title", "_law_many", "_law_trees", "_law_tree_here", "_law_k"] ["_law_bag_here", "_law_state", "_law_nested"] (defScope sRow) := ⟨rfl, rfl, rfl, by decide +kernel, rfl, by decide +kernel, by decide +kernel⟩
theorem scRows : FnScope ["_law_bag_here", "_law_state", "_law_nested", "_law_many", "_law_k"] ["_law_bag_here", "_law_state", "_law_nested"] (defScope sRows) := ⟨rfl, rfl, rfl, by decide +kernel, rfl, by decide +kernel, by decide +kernel⟩
/-! ### tuples stay -/
def KeepT (H H' : Hp) : Prop := ∀ a xs, H a = some (.tup xs) → H' a = some (.tup xs)
theorem KeepT.of {H H' : Hp} (h : Same H H') : KeepT H H' := fun a xs e => h a _ e
theorem KeepT.trans {H H1 H2 : Hp} (h : KeepT H H1) (k : KeepT H1 H2) : KeepT H H2 := fun a xs e => k a xs (h a xs e)
theorem TrIn.keep {H H' : Hp} (h : KeepT H H') : ∀ {e : Ex} {v : V}, TrIn H e v → TrIn H' e v
  | .num n, v, ⟨a, e, k⟩ => ⟨a, e, h _ _ k⟩
  | .nam n, v, ⟨a, e, k⟩ => ⟨a, e, h _ _ k⟩
  | .op g l r, v, ⟨a, x, y, e, k, p, q⟩ => ⟨a, x, y, e, h _ _ k, TrIn.keep h p, TrIn.keep h q⟩
theorem TrsIn.keep {H H' : Hp} (h : KeepT H H') : ∀ {es : List Ex} {vs : List V}, TrsIn H es vs → TrsIn H' es vs
  | [], _, q => q
  | _ :: _, _, ⟨v, r, e, t, q⟩ => ⟨v, r, e, t.keep h, TrsIn.keep h q⟩
theorem OptIn.keep {H H' : Hp} (h : KeepT H H') : ∀ {e : Option Ex} {v : V}, OptIn H e v → OptIn H' e v
  | none, _, q => q
  | some _, _, q => TrIn.keep h q
theorem RsIn.keep {H H' : Hp} (h : KeepT H H') : ∀ {r : Rs} {vs : List V}, RsIn H r vs → RsIn H' r vs
  | .nil, _, q => q
  | .put _ _ _, _, ⟨a, v, r, e, k, t, q⟩ => ⟨a, v, r, e, h _ _ k, t.keep h, RsIn.keep h q⟩
  | .go _ _ _ _ _, _, ⟨a, p, ws, r, e, k, k2, t, q⟩ => ⟨a, p, ws, r, e, h _ _ k, h _ _ k2, t.keep h, RsIn.keep h q⟩
  | .wait _ _ _ _, _, ⟨a, v, r, e, k, t, q⟩ => ⟨a, v, r, e, h _ _ k, t.keep h, RsIn.keep h q⟩
  | .iff _ _ _ _, _, ⟨a, v, p, xs, p', ys, r, e, k, t, k1, q1, k2, q2, q⟩ => ⟨a, v, p, xs, p', ys, r, e, h _ _ k, t.keep h, h _ _ k1, RsIn.keep h q1, h _ _ k2, RsIn.keep h q2, RsIn.keep h q⟩
  | .give _ _ _, _, ⟨a, v, r, e, k, t, q⟩ => ⟨a, v, r, e, h _ _ k, t.keep h, RsIn.keep h q⟩
theorem WkIn.keep {H H' : Hp} {W : Wk} {v : V} (h : KeepT H H') : WkIn H W v → WkIn H' W v
  | ⟨a, pn, pr, xs, e, k1, k2, k3, q⟩ => ⟨a, pn, pr, xs, e, h _ _ k1, h _ _ k2, h _ _ k3, q.keep h⟩
theorem WksIn.keep {H H' : Hp} {Ws : List Wk} {vs : List V} (h : KeepT H H') (q : WksIn H Ws vs) : WksIn H' Ws vs := ⟨q.1, fun i v e => by
  obtain ⟨W, a, b⟩ := q.2 i v e
  exact ⟨W, a, b.keep h⟩⟩
/-- all but what stands at b and d -/
def But2 (b d : Addr) (H H' : Hp) : Prop := ∀ a o, a ≠ b → a ≠ d → H a = some o → H' a = some o
theorem But2.of {b d : Addr} {H H' : Hp} (h : Same H H') : But2 b d H H' := fun a o _ _ e => h a o e
theorem But2.but {b d : Addr} {H H' : Hp} (h : But b H H') : But2 b d H H' := fun a o n _ e => h a o n e
theorem But2.trans {b d : Addr} {H H1 H2 : Hp} (h : But2 b d H H1) (k : But2 b d H1 H2) : But2 b d H H2 := fun a o n m e => k a o n m (h a o n m e)
theorem KeepT.but {b : Addr} {ys : List V} {H H' : Hp} (hb : H b = some (.lst ys)) (h : But b H H') : KeepT H H' := fun a xs e => h a _ (lst_ne e hb) e
theorem KeepT.but2 {b d : Addr} {ys : List V} {kvs : List (Key × V)} {H H' : Hp} (hb : H b = some (.lst ys)) (hd : H d = some (.dK kvs)) (h : But2 b d H H') : KeepT H H' := fun a xs e => h a _ (lst_ne e hb) (fun z => by rw [z, hd] at e; cases e) e
theorem KeepT.upd {H : Hp} {b : Addr} {o o' : HO} (hb : H b = some o) (ho : ∀ xs, o ≠ .tup xs) : KeepT H (upd H b o') := fun a xs e => by
  rw [upd_ne (fun z => by rw [z, hb] at e; exact ho xs (Option.some.inj e))]
  exact e
/-! ### what rows are drawn by -/
def TisIn (H : Hp) (ti : List (Str × Nat)) (vs : List V) : Prop := vs.length = ti.length ∧ ∀ (i : Nat) (v : V), vs[i]? = some v → ∃ t, ti[i]? = some t ∧ ∃ p, v = .ref p ∧ H p = some (.tup [.str t.1, .int (t.2 : Nat)])
structure RC (H : Hp) (b sd an at_ : Addr) (nm : List Str) (ti : List (Str × Nat)) : Prop where
  names : H an = some (.lst (nm.map V.str))
  titles : ∃ tvs, H at_ = some (.lst tvs) ∧ TisIn H ti tvs
  nb : an ≠ b
  tb : at_ ≠ b
  nm1 : 1 ≤ nm.length
  nm2 : nm.length ≤ 1000
  nmk : ∀ s ∈ nm, NmOk s
  ti1 : 1 ≤ ti.length
  ti2 : ti.length ≤ 1000
  tik : ∀ t ∈ ti, NmOk t.1 ∧ t.2 ≤ 4
def stK (an at_ : Addr) (L : Nat) : List (Key × V) := [(Sum.inr "names", .ref an), (Sum.inr "titles", .ref at_), (Sum.inr "left", .int (L : Nat))]
def StL (H : Hp) (sd an at_ : Addr) (L : Nat) : Prop := H sd = some (.dK (stK an at_ L))
theorem k_nl : ("names" : Str) ≠ "left" := by decide +kernel
theorem k_tl : ("titles" : Str) ≠ "left" := by decide +kernel
theorem k_nt : ("names" : Str) ≠ "titles" := by decide +kernel
theorem st_names (an at_ : Addr) (L : Nat) : valV (stK an at_ L) (Sum.inr "names") = some (.ref an) := valV_pos rfl
theorem st_titles (an at_ : Addr) (L : Nat) : valV (stK an at_ L) (Sum.inr "titles") = some (.ref at_) := by
  unfold stK
  rw [valV_neg (fun z => k_nt (Sum.inr.inj z))]
  exact valV_pos rfl
theorem st_left (an at_ : Addr) (L : Nat) : valV (stK an at_ L) (Sum.inr "left") = some (.int (L : Nat)) := by
  unfold stK
  have h1 : ¬ ((Sum.inr "names" : Key) = (Sum.inr "left" : Key)) := by
    intro z
    exact k_nl (Sum.inr.inj z)
  have h2 : ¬ ((Sum.inr "titles" : Key) = (Sum.inr "left" : Key)) := by
    intro z
    exact k_tl (Sum.inr.inj z)
  rw [valV_neg h1, valV_neg h2]
  exact valV_pos rfl
theorem st_put (an at_ : Addr) (L M : Nat) : putK (stK an at_ L) (Sum.inr "left") (.int (M : Nat)) = stK an at_ M := by
  unfold putK stK
  have h1 : ¬ ((Sum.inr "names" : Key) = (Sum.inr "left" : Key)) := by
    intro z
    exact k_nl (Sum.inr.inj z)
  have h2 : ¬ ((Sum.inr "titles" : Key) = (Sum.inr "left" : Key)) := by
    intro z
    exact k_tl (Sum.inr.inj z)
  simp [h1, h2, k_nl, k_tl]
theorem StL.get {H : Hp} {sd an at_ : Addr} {L : Nat} (h : StL H sd an at_ L) : DGet H sd (.str "names") (some (.ref an)) ∧ DGet H sd (.str "titles") (some (.ref at_)) ∧ DGet H sd (.str "left") (some (.int (L : Nat))) := by
  have k := fun x : Str => DGet.k (k := Sum.inr x) (show H sd = some (.dK (stK an at_ L)) from h)
  have k1 := k "names"
  have k2 := k "titles"
  have k3 := k "left"
  rw [st_names] at k1
  rw [st_titles] at k2
  rw [st_left] at k3
  exact ⟨k1, k2, k3⟩
theorem StL.same {H H' : Hp} {sd an at_ : Addr} {L : Nat} (s : Same H H') (h : StL H sd an at_ L) : StL H' sd an at_ L := s _ _ h
theorem StL.but {H H' : Hp} {b sd an at_ : Addr} {L : Nat} {ys : List V} (hb : H b = some (.lst ys)) (u : But b H H') (h : StL H sd an at_ L) : StL H' sd an at_ L := u _ _ (fun z => by unfold StL at h; rw [z, hb] at h; cases h) h
theorem RC.move {H H' : Hp} {b sd an at_ : Addr} {nm : List Str} {ti : List (Str × Nat)} {L : Nat} (r : RC H b sd an at_ nm ti) (hs : StL H sd an at_ L) (hb : ∃ ys, H b = some (.lst ys)) (u : But2 b sd H H') : RC H' b sd an at_ nm ti := by
  obtain ⟨ys, hb⟩ := hb
  have kt : KeepT H H' := .but2 hb hs u
  have ns : ∀ (a : Addr) (xs : List V), H a = some (.lst xs) → a ≠ sd := fun a xs e z => by
    unfold StL at hs
    rw [z, hs] at e
    cases e
  obtain ⟨tvs, h1, h2⟩ := r.titles
  refine ⟨u _ _ r.nb (ns _ _ r.names) r.names, ⟨tvs, u _ _ r.tb (ns _ _ h1) h1, h2.1, fun i v e => ?_⟩, r.nb, r.tb, r.nm1, r.nm2, r.nmk, r.ti1, r.ti2, r.tik⟩
  obtain ⟨t, e1, p, e2, e3⟩ := h2.2 i v e
  exact ⟨t, e1, p, e2, kt _ _ e3⟩
def mm : Nat → Nat
  | 0 => 2
  | 1 => 2
  | 2 => 3
  | _ => 11
def rcd : Nat → Nat
  | 0 => 800
  | d + 1 => 800 + 2 * (1 + mm d * rcd d)
theorem rcd_ge (d : Nat) : 800 ≤ rcd d := by
  cases d with
  | zero => exact Nat.le_refl _
  | succ d => show 800 ≤ 800 + 2 * (1 + mm d * rcd d); omega
def spRow (d : Nat) : Sp := fun vs H Q _ => ∃ (b sd an at_ : Addr) (nm : List Str) (ti : List (Str × Nat)) (L k : Nat), vs = [.ref b, .ref sd, .int ((3 - d : Nat) : Int)] ∧ d ≤ 3 ∧ RC H b sd an at_ nm ti ∧ StL H sd an at_ L ∧ Bag H b (k + rcd d) ∧
  ∀ (v : V) (rs : Rs) (H' : Hp), RsIn H' rs [v] → Rs.ok d rs → rs.count ≤ L + 1 → (∀ st ∈ rs.starts, st ∈ ti) → StL H' sd an at_ (L + 1 - rs.count) → Bag H' b k → But2 b sd H H' → Q v H'
def spRows (d : Nat) : Sp := fun vs H Q _ => ∃ (b sd an at_ : Addr) (nm : List Str) (ti : List (Str × Nat)) (L k : Nat), vs = [.ref b, .ref sd, .int ((3 - d : Nat) : Int)] ∧ d ≤ 3 ∧ RC H b sd an at_ nm ti ∧ StL H sd an at_ L ∧ Bag H b (k + (1 + mm d * rcd d)) ∧
  ∀ (p : Addr) (xs : List V) (rs : Rs) (H' : Hp), H' p = some (.tup xs) → RsIn H' rs xs → Rs.ok d rs → rs.count ≤ L → (∀ st ∈ rs.starts, st ∈ ti) → StL H' sd an at_ (L - rs.count) → Bag H' b k → But2 b sd H H' → Q (.ref p) H'
theorem Ex.of_fine6 {nm : List Str} (hn : ∀ s ∈ nm, NmOk s) {n : Nat} (h : n ≤ 6) {e : Ex} (o : Ex.of nm n e) : Ex.fine 6 e := Ex.fine_up h (Ex.of_fine hn o)
section
variable {P : Program} {w : World} {K : PySem.W.Frag} {mg : Str → Option Value} {base : Heap}
set_option maxHeartbeats 4000000 in
theorem ok_row {d : Nat} {f t u r : Addr} {fd td ud rd : FuncData} (F : Fun K "_law_row" "_law_row" sRow f fd) (TK : Fk P w K mg base 1 "_law_take" t td ["_law_bag_here", "_law_many"] spTake) (TR : Fk P w K mg base 8 "_law_tree" u ud ["_law_bag_here", "_law_names_here", "_law_deep_here"] (spTrees 6))
    (RS : 1 ≤ d → FnOk P w K mg base CX0 (8 + 2 * d) r rd ["_law_bag_here", "_law_state", "_law_nested"] (spRows (d - 1))) (mR : mg "_law_rows" = some (.ref r)) (kR : PySem.W.keepIn K (.ref r) = true) (bR : Binds K rd ["_law_bag_here", "_law_state", "_law_nested"] []) (T : Bi mg) (mt : mg "tuple" = none) :
    FnOk P w K mg base CX0 (9 + 2 * d) f fd ["_law_bag_here", "_law_state", "_law_nested"] (spRow d) := by
  have lvl : 9 + 2 * d = (8 + 2 * d) + 1 := by omega
  rw [lvl]
  refine F.ok scRow (fun vs H Q E h => ?_) (fun cdv A outer s H vs Q E hr h => ?_)
  · obtain ⟨b, sd, an, at_, nm, ti, L, k, rfl, _⟩ := h
    rfl
  obtain ⟨b, sd, an, at_, nm, ti, L, k, rfl, d3, rc, hst, hB, q⟩ := h
  have BG : ∃ sp, FnOk P w K mg base CX0 (8 + 2 * d) r rd ["_law_bag_here", "_law_state", "_law_nested"] sp ∧ (1 ≤ d → sp = spRows (d - 1)) := by
    by_cases h1 : 1 ≤ d
    · exact ⟨_, RS h1, fun _ => rfl⟩
    · refine ⟨fun _ _ _ _ => False, ⟨fun _ _ _ _ h => h.elim, fun _ _ _ _ _ _ _ _ _ _ _ _ _ h => h.elim⟩, fun z => absurd z h1⟩
  obtain ⟨spB, GB, eB⟩ := BG
  have RW : Fk P w K mg base (8 + 2 * d) "_law_rows" r rd ["_law_bag_here", "_law_state", "_law_nested"] spB := ⟨GB, mR, kR, bR⟩
  refine ⟨_, (pss_cons (ps_asg (pe_tup (pa_cons (pe_dget (hu_of hr) (pv 1) pe_str (fun _ _ => rfl)) (pa_cons (pe_dget (hu_of hr) (pv 1) pe_str (fun _ _ => rfl)) pa_nil))) (pg_tup rfl (pgs_cons (pg_name (i := 3) scRow.nd rfl (.inr rfl)) (pgs_cons (pg_name (i := 4) scRow.nd rfl (.inl rfl)) pgs_nil))))
    (pss_cons (ps_asg (pe_lc (own := [("_law_k", 12)]) (g := gName 12) (tt := tYes) (by rfl) scRow.nd (pi_range1 (by rfl) T.range (pa_cons pe_int pa_nil)) (blkOk_by (own := [("_law_k", 12)]) (N := ["_law_bag_here", "_law_state", "_law_nested", "_law_names_here", "_law_titles", "_law_one", "_law_other", "_law_way", "_law_title", "_law_many", "_law_trees", "_law_tree_here", "_law_k"]) (sc := defScope sRow) (by decide +kernel)) (fun _ _ _ _ _ => pg_name (i := 12) scRow.nd rfl (Or.inl rfl)) (fun _ _ _ _ _ => pts_nil) (fun _ _ _ _ _ => (pe_ix (ix_listK K) (pv 3) (pe_call TK.G (hr.mono (by omega)) (by rfl) TK.m TK.k TK.b .nil pass0 (pa_cons (pv 0) (pa_cons (pe_callB (call_len_seqK K) (by rfl) T.len (by decide +kernel) (pa_cons (pv 3) pa_nil)) pa_nil))) (fun _ _ => rfl)))) (pg_unl rfl (pgs_cons (pg_name (i := 5) scRow.nd rfl (.inl rfl)) (pgs_cons (pg_name (i := 6) scRow.nd rfl (.inl rfl)) pgs_nil))))
    (pss_cons (ps_set (i := 7) scRow.nd rfl (Or.inl rfl) (pe_call TK.G (hr.mono (by omega)) (by rfl) TK.m TK.k TK.b .nil pass0 (pa_cons (pv 0) (pa_cons pe_int pa_nil))))
    (pss_cons (ps_if (pt_cmpR op_lt (pv 7) pe_int (nomark _))
      (pss_cons (ps_asg (pe_ix ix_list (pv 4) (pe_call TK.G (hr.mono (by omega)) (by rfl) TK.m TK.k TK.b .nil pass0 (pa_cons (pv 0) (pa_cons (pe_callB call_len_seq (by rfl) T.len (by decide +kernel) (pa_cons (pv 4) pa_nil)) pa_nil))) (fun _ _ => rfl)) (pg_tup rfl (pgs_cons (pg_name (i := 8) scRow.nd rfl (.inl rfl)) (pgs_cons (pg_name (i := 9) scRow.nd rfl (.inl rfl)) pgs_nil))))
    (pss_cons (ps_setLc (i := 10) (own := [("_law_k", 12)]) (g := gName 12) (tt := tYes) (by rfl) scRow.nd rfl rfl (sw_true rfl rfl rfl (by decide +kernel)) (pi_range1 (by rfl) T.range (pa_cons (pv 9) pa_nil)) (blkOk_by (own := [("_law_k", 12)]) (N := ["_law_bag_here", "_law_state", "_law_nested", "_law_names_here", "_law_titles", "_law_one", "_law_other", "_law_way", "_law_title", "_law_many", "_law_trees", "_law_tree_here", "_law_k"]) (sc := defScope sRow) (by decide +kernel)) (fun _ _ _ _ _ => pg_name (i := 12) scRow.nd rfl (Or.inl rfl)) (fun _ _ _ _ _ => pts_nil) (fun _ _ _ _ _ => (pe_call TR.G (hr.mono (by omega)) (by rfl) TR.m TR.k TR.b .nil pass0 (pa_cons (pv 0) (pa_cons (pv 3) (pa_cons (pe_op op_add pe_int (pe_call TK.G (hr.mono (by omega)) (by rfl) TK.m TK.k TK.b .nil pass0 (pa_cons (pv 0) (pa_cons pe_int pa_nil)))) pa_nil))))))
    (pss_one (ps_ret (pe_tup (pa_cons (pe_ix ix_list (pe_lst (pa_cons pe_str (pa_cons pe_str (pa_cons pe_str pa_nil)))) (pv 7) (fun _ _ => rfl)) (pa_cons (pv 5) (pa_cons (pv 8) (pa_cons (pe_callTy call_tuple_of (by rfl) mt (by decide +kernel) (pa_cons (pv 10) pa_nil)) pa_nil)))))))))
      pss_nil)
    (pss_cons (ps_if (pt_cmpR op_eq (pv 7) pe_int (nomark _))
      (pss_one (ps_ret (pe_tup (pa_cons pe_str (pa_cons (pv 5) (pa_cons (pv 6) (pa_cons (pe_ix ix_list (pe_lst (pa_cons pe_non (pa_cons (pe_call TR.G (hr.mono (by omega)) (by rfl) TR.m TR.k TR.b .nil pass0 (pa_cons (pv 0) (pa_cons (pv 3) (pa_cons pe_int pa_nil)))) pa_nil))) (pe_call TK.G (hr.mono (by omega)) (by rfl) TK.m TK.k TK.b .nil pass0 (pa_cons (pv 0) (pa_cons pe_int pa_nil))) (fun _ _ => rfl)) pa_nil)))))))
      pss_nil)
    (C8.pss_cut (ps_if (PW.pt (pw_and (pt_cmpR op_eq (pv 7) pe_int (nomark _)) (pw_and1 (pt_cmpR op_lt (pv 2) pe_int (nomark _)))))
      (pss_cons (ps_set (i := 11) scRow.nd rfl (Or.inl rfl) (pe_call TR.G (hr.mono (by omega)) (by rfl) TR.m TR.k TR.b .nil pass0 (pa_cons (pv 0) (pa_cons (pv 3) (pa_cons pe_int pa_nil)))))
    (pss_one (ps_ret (pe_tup (pa_cons pe_str (pa_cons (pv 11) (pa_cons (pe_call RW.G hr (by rfl) RW.m RW.k RW.b .nil pass0 (pa_cons (pv 0) (pa_cons (pv 1) (pa_cons (pe_op op_add (pv 2) pe_int) pa_nil)))) (pa_cons (pe_call RW.G hr (by rfl) RW.m RW.k RW.b .nil pass0 (pa_cons (pv 0) (pa_cons (pv 1) (pa_cons (pe_op op_add (pv 2) pe_int) pa_nil)))) pa_nil))))))))
      pss_nil)
    (pss_cons (ps_if (pt_cmpR op_eq (pv 7) pe_int (nomark _))
      (pss_one (ps_ret (pe_tup (pa_cons (pe_ix ix_list (pe_lst (pa_cons pe_str (pa_cons pe_str pa_nil))) (pe_call TK.G (hr.mono (by omega)) (by rfl) TK.m TK.k TK.b .nil pass0 (pa_cons (pv 0) (pa_cons pe_int pa_nil))) (fun _ _ => rfl)) (pa_cons (pe_call TR.G (hr.mono (by omega)) (by rfl) TR.m TR.k TR.b .nil pass0 (pa_cons (pv 0) (pa_cons (pv 3) (pa_cons (pe_op op_add pe_int (pe_call TK.G (hr.mono (by omega)) (by rfl) TK.m TK.k TK.b .nil pass0 (pa_cons (pv 0) (pa_cons pe_int pa_nil)))) pa_nil)))) pa_nil)))))
      pss_nil)
    (pss_one (ps_ret (pe_tup (pa_cons pe_str (pa_cons (pv 5) (pa_cons (pe_call TR.G (hr.mono (by omega)) (by rfl) TR.m TR.k TR.b .nil pass0 (pa_cons (pv 0) (pa_cons (pv 3) (pa_cons (pe_op op_add pe_int (pe_call TK.G (hr.mono (by omega)) (by rfl) TK.m TK.k TK.b .nil pass0 (pa_cons (pv 0) (pa_cons pe_int pa_nil)))) pa_nil)))) pa_nil))))))))))))), ?_⟩
  have hs : sizeLine = 16777216 := by decide
  have hrc := rcd_ge d
  obtain ⟨g1, g2, g3⟩ := hst.get
  refine ⟨_, rfl, sd, _, rfl, g1, _, rfl, sd, _, rfl, g2, (by show 2 ≤ sizeLine; decide), fun t1 ht1 => ?_⟩
  have s1 := same_new ht1 (.tup [.ref an, .ref at_])
  refine ⟨t1, _, rfl, SqT.of upd_same, rfl, _, _, rfl, _, _, rfl, rfl, ?_⟩
  generalize upd H t1 (.tup [.ref an, .ref at_]) = H1 at s1
  have rc1 := rc.move hst hB.lst (.of s1)
  have st1 := hst.same s1
  have B1 := hB.same s1
  -- the two names
  refine ⟨2, rfl, by decide, by decide, ?_⟩
  intro D hD
  have nDb : D ≠ b := fun z => by obtain ⟨ys, hy⟩ := B1.lst; rw [z, hy] at hD; cases hD
  refine lc_range (lo := 0) (n := 2) (fun j H' => ∃ ss : List Str, H' D = some (.lst (ss.map V.str)) ∧ ss.length = j ∧ (∀ s ∈ ss, s ∈ nm) ∧ Bag H' b (k + rcd d - j) ∧ But b H1 H') ?_ ?_ ?_
  · exact ⟨[], upd_same, rfl, fun s h => (by cases h), (B1.same (same_new hD _)).less (by omega), But.new hD _⟩
  · rintro j H2 hj ⟨ss, hD2, hl, hin, B2, U2⟩
    refine ⟨rfl, ?_⟩
    have hn2 := U2 _ _ rc.nb rc1.names
    have hlm : (nm.map V.str).length = nm.length := List.length_map _
    have h1 := rc.nm1
    have h2 := rc.nm2
    refine ⟨_, rfl, _, rfl, _, rfl, an, _, rfl, .inl (SqL.of hn2), b, _, k + rcd d - j - 1, rfl, by rw [hlm]; omega, by rw [hlm]; omega, B2.less (by omega), fun d1 H3 a1 a2 B3 U3 => ?_⟩
    rw [hlm] at a2
    obtain ⟨x, ex, hx⟩ := menuS (ns := nm) a1 a2
    refine ⟨an, _, _, _, rfl, rfl, SqL.of (U3 _ _ rc.nb hn2), ex, ?_⟩
    refine ⟨_, U3 _ _ nDb hD2, by rw [List.length_map]; omega, ss ++ [x], ?_, by rw [List.length_append, hl]; rfl, ?_, ?_, ?_⟩
    · rw [upd_same, List.map_append]; rfl
    · intro s hs'
      rcases List.mem_append.mp hs' with h | h
      · exact hin s h
      · rw [List.mem_singleton.mp h]; exact hx
    · obtain ⟨x', y', z', e, rr⟩ := B3
      exact Bag.less ⟨x', y', z', by rw [upd_ne (Ne.symm nDb)]; exact e, rr⟩ (by omega)
    · intro a o na e
      rw [upd_ne (ne_of_none e hD)]
      exact U3 _ _ na (U2 _ _ na e)
  rintro H2 ⟨ss, hD2, hl, hin, B2, U2⟩
  obtain ⟨o1, o2, rfl⟩ : ∃ o1 o2, ss = [o1, o2] := by
    match ss, hl with
    | [a, b], _ => exact ⟨a, b, rfl⟩
  have ok1 := rc.nmk o1 (hin o1 (by simp))
  have ok2 := rc.nmk o2 (hin o2 (by simp))
  refine ⟨D, _, rfl, SqL.of hD2, rfl, _, _, rfl, _, _, rfl, rfl, ?_⟩
  -- its way
  refine ⟨_, rfl, b, 9, k + rcd d - 3, rfl, by decide, by decide, B2.less (by omega), fun way H3 w1 w2 B3 U3 => ?_⟩
  obtain ⟨ys1, hys1⟩ := B1.lst
  obtain ⟨ys2, hys2⟩ := B2.lst
  have U13 : But b H1 H3 := U2.trans U3
  have V3 : But2 b sd H H3 := (But2.of s1).trans (.but U13)
  have rc3 : RC H3 b sd an at_ nm ti := rc1.move st1 B1.lst (.but U13)
  have st3 : StL H3 sd an at_ L := st1.but hys1 U13
  have nmo : ∀ s ∈ nm, nmOk s := fun s h => (rc.nmk s h).1
  have tc6 : tc 6 = 756 := by decide
  -- a row that is no if: its end
  have fin : ∀ (v : V) (rs : Rs) (H' : Hp), RsIn H' rs [v] → Rs.ok d rs → rs.count = 1 → (∀ st ∈ rs.starts, st ∈ ti) → (∃ ys, H3 b = some (.lst ys)) → Bag H' b k → But b H3 H' → Q v H' := fun v rs H' a1 a2 a3 a4 ⟨ys, hy⟩ a5 a6 => q v rs H' a1 a2 (by omega) a4 (by rw [a3]; exact st3.but hy a6) a5 (V3.trans (.but a6))
  refine ⟨_, rfl, _, _, rfl, rfl, _, rfl, ?_⟩
  refine ite2 (fun c => ?_) (fun c => ?_)
  · -- go, call
    have c' : way < 3 := of_decide_eq_true c
    obtain ⟨tvs, ht, tin⟩ := rc3.titles
    have t1' := rc.ti1
    have t2' := rc.ti2
    refine ⟨_, rfl, _, rfl, _, rfl, at_, _, rfl, .inl (SqL.of ht), b, _, k + rcd d - 4, rfl, by rw [tin.1]; omega, by rw [tin.1]; omega, B3.less (by omega), fun d1 H4 a1 a2 B4 U4 => ?_⟩
    obtain ⟨v, ev, hv⟩ := menu (xs := tvs) a1 a2
    obtain ⟨i, hi, ei⟩ := List.mem_iff_getElem.mp hv
    obtain ⟨tt, htt, p, rfl, hp⟩ := tin.2 i v (by rw [List.getElem?_eq_getElem hi, ei])
    have tmem := List.mem_of_getElem? htt
    have tok := rc.tik tt tmem
    obtain ⟨ys3, hys3⟩ := B3.lst
    have kt34 : KeepT H3 H4 := .but hys3 U4
    refine ⟨at_, _, _, _, rfl, rfl, SqL.of (U4 _ _ rc.tb ht), ev, ?_⟩
    refine ⟨p, _, rfl, SqT.of (kt34 _ _ hp), rfl, _, _, rfl, _, _, rfl, rfl, ?_⟩
    have tlt := tok.2
    refine ⟨_, rfl, _, rfl, by omega, by omega, ?_⟩
    intro D2 hD2'
    have nD2b : D2 ≠ b := fun z => by obtain ⟨ys, hy⟩ := B4.lst; rw [z, hy] at hD2'; cases hD2'
    have B4' := B4.same (same_new hD2' (.lst []))
    refine lc_range (lo := 0) (n := ((tt.2 : Nat) : Int).toNat) (fun j H' => ∃ (es : List Ex) (ws : List V), H' D2 = some (.lst ws) ∧ TrsIn H' es ws ∧ es.length = j ∧ (∀ e ∈ es, Ex.fine 6 e) ∧ Bag H' b (k + rcd d - 4 - 100 * j) ∧ But b H4 H') ?_ ?_ ?_
    · exact ⟨[], [], upd_same, rfl, rfl, fun e h => (by cases h), B4'.less (by omega), But.new hD2' _⟩
    · rintro j H5 hj ⟨es, ws, hD5, ts, hl5, hf5, B5, U5⟩
      have hj4 : j < 4 := by omega
      refine ⟨rfl, ?_⟩
      obtain ⟨ys4, hys4⟩ := B4.lst
      obtain ⟨ys5, hys5⟩ := B5.lst
      have hn5 := U5 _ _ rc.nb (U4 _ _ rc.nb rc3.names)
      refine ⟨_, rfl, _, rfl, _, rfl, b, 3, k + rcd d - 5 - 100 * j, rfl, by decide, by decide, B5.less (by omega), fun d2 H6 b1 b2 B6 U6 => ?_⟩
      have ed : ((1 + d2).toNat : Int) = 1 + d2 := Int.toNat_of_nonneg (by omega)
      have tcs : tc (1 + d2).toNat ≤ 84 := by
        rcases (show d2 = 0 ∨ d2 = 1 ∨ d2 = 2 by omega) with rfl | rfl | rfl <;> decide
      refine ⟨_, _, rfl, rfl, (1 + d2).toNat, by omega, b, an, nm, k + rcd d - 5 - 100 * j - 84, (by show [V.ref b, V.ref an, V.int (1 + d2)] = _; rw [ed]), U6 _ _ rc.nb hn5, rc.nb, rc.nm2, nmo, by omega, B6.less (by omega), fun v' e' H7 t7 o7 B7 U7 => ?_⟩
      obtain ⟨ys6, hys6⟩ := B6.lst
      have kt57 : KeepT H5 H7 := (KeepT.but hys5 U6).trans (.but hys6 U7)
      have hD7 := U7 _ _ nD2b (U6 _ _ nD2b hD5)
      have kt8 : KeepT H7 (upd H7 D2 (.lst (ws ++ [v']))) := .upd hD7 (fun xs z => by cases z)
      refine ⟨_, hD7, by rw [ts.len]; omega, es ++ [e'], ws ++ [v'], upd_same, ?_, by rw [List.length_append, hl5]; rfl, ?_, ?_, ?_⟩
      · exact TrsIn.snoc (t7.keep kt8) ((ts.keep kt57).keep kt8)
      · intro e he
        rcases List.mem_append.mp he with h | h
        · exact hf5 e h
        · rw [List.mem_singleton.mp h]; exact Ex.of_fine6 rc.nmk (by omega) o7
      · obtain ⟨x', y', z', e, rr⟩ := B7
        exact Bag.less ⟨x', y', z', by rw [upd_ne (Ne.symm nD2b)]; exact e, rr⟩ (by omega)
      · intro a o na e
        rw [upd_ne (ne_of_none e hD2')]
        exact U7 _ _ na (U6 _ _ na (U5 _ _ na e))
    · rintro H5 ⟨es, ws, hD5, ts, hl5, hf5, B5, U5⟩
      refine ⟨(by show 3 ≤ sizeLine; decide), fun l hl' => ?_⟩
      have s6 := same_new hl' (.lst [.str "go", .str "call", .str "go"])
      have mw : ∃ wd : Bool, atI [V.str "go", V.str "call", V.str "go"] way = some (.str (goW wd)) := by
        rcases (show way = 0 ∨ way = 1 ∨ way = 2 by omega) with rfl | rfl | rfl
        · exact ⟨false, atI_nat (j := 0) rfl⟩
        · exact ⟨true, atI_nat (j := 1) rfl⟩
        · exact ⟨false, atI_nat (j := 2) rfl⟩
      obtain ⟨wd, ew⟩ := mw
      refine ⟨_, rfl, l, _, _, _, rfl, rfl, SqL.of upd_same, ew, _, rfl, _, rfl, _, rfl, D2, _, rfl, .inl ⟨SqL.of (s6 _ _ hD5), fun p2 hp2 => ?_⟩⟩
      have s7 := same_new hp2 (.tup ws)
      refine ⟨(by show 4 ≤ sizeLine; decide), fun p3 hp3 => ?_⟩
      have s8 := same_new hp3 (.tup [.str (goW wd), .str o1, .str tt.1, .ref p2])
      have s68 := s6.trans (s7.trans s8)
      refine fin (.ref p3) (.go wd o1 tt.1 es .nil) _ ⟨p3, p2, ws, [], rfl, upd_same, s8 _ _ upd_same, ts.same s68, rfl⟩ ⟨ok1, tok.1, by omega, hf5, trivial⟩ rfl ?_ B3.lst ((B5.same s68).less (by omega)) (U4.trans (U5.trans (.of s68)))
      intro st hst'
      have hst'' : st = (tt.1, es.length) := by simpa [Rs.starts] using hst'
      rw [hst'', hl5]
      have : ((tt.2 : Nat) : Int).toNat = tt.2 := Int.toNat_natCast _
      rw [this]
      exact tmem
  · have c' : ¬ way < 3 := of_decide_eq_false (Bool.eq_false_iff.mpr c)
    refine ⟨_, rfl, rfl, _, rfl, ?_⟩
    refine ite2 (fun c3 => ?_) (fun c3 => ?_)
    · -- wait
      refine ⟨_, rfl, _, rfl, _, rfl, _, rfl, 2, by decide, b, an, nm, k + rcd d - 3 - 36, rfl, rc3.names, rc.nb, rc.nm2, nmo, by decide, B3.less (by have h36 : tc 2 = 36 := (by decide); omega), fun v e H4 t4 o4 B4 U4 => ?_⟩
      refine ⟨(by show 2 ≤ sizeLine; decide), fun l hl' => ?_⟩
      have s5 := same_new hl' (.lst [.non, v])
      refine ⟨_, rfl, b, 2, k + rcd d - 4 - 36, rfl, by decide, by decide, (B4.same s5).less (by omega), fun d2 H6 b1 b2 B6 U6 => ?_⟩
      have nlb : l ≠ b := fun z => by obtain ⟨ys, hy⟩ := B4.lst; rw [z, hy] at hl'; cases hl'
      have hl6 : H6 l = some (.lst [.non, v]) := U6 _ _ nlb upd_same
      obtain ⟨ys5, hys5⟩ := (B4.same s5).lst
      have t6 : TrIn H6 e v := (t4.same s5).keep (.but hys5 U6)
      have mo : ∃ (oe : Option Ex) (v' : V), atI [V.non, v] d2 = some v' ∧ OptIn H6 oe v' ∧ ∀ e', oe = some e' → Ex.fine 6 e' := by
        rcases (show d2 = 0 ∨ d2 = 1 by omega) with rfl | rfl
        · exact ⟨none, .non, atI_nat (j := 0) rfl, rfl, fun e' z => (by cases z)⟩
        · exact ⟨some e, v, atI_nat (j := 1) rfl, t6, fun e' z => (by cases z; exact Ex.of_fine6 rc.nmk (by omega) o4)⟩
      obtain ⟨oe, v', ev, ov, of6⟩ := mo
      refine ⟨l, _, _, _, rfl, rfl, SqL.of hl6, ev, (by show 4 ≤ sizeLine; decide), fun p hp => ?_⟩
      have s7 := same_new hp (.tup [.str "wait", .str o1, .str o2, v'])
      exact fin (.ref p) (.wait o1 o2 oe .nil) _ ⟨p, v', [], rfl, upd_same, ov.same s7, rfl⟩ ⟨ok1, ok2, of6, trivial⟩ rfl (fun st h => (by cases h)) B3.lst ((B6.same s7).less (by omega)) (U4.trans ((But.of s5).trans (U6.trans (.of s7))))
    · -- an if?
      have goOn : ∀ (cc : Bool), True := fun _ => trivial
      refine ⟨fun σ' H' => (σ' = [some (.ref b), some (.ref sd), some (.int ((3 - d : Nat) : Int)), some (.ref an), some (.ref at_), some (.str o1), some (.str o2), some (.int way), none, none, none, none, none]) ∧ H' = H3, ?_, ?_⟩
      · refine ⟨_, rfl, rfl, _, rfl, ?_⟩
        refine ite2 (fun c4 => ⟨_, rfl, _, _, rfl, rfl, _, rfl, ite2 (fun c5 => ?_) (fun c5 => ⟨rfl, rfl⟩)⟩) (fun c4 => ⟨rfl, rfl⟩)
        have c5' : ((3 - d : Nat) : Int) < 3 := of_decide_eq_true c5
        have hd1 : 1 ≤ d := by omega
        obtain ⟨dd, rfl⟩ : ∃ dd, d = dd + 1 := ⟨d - 1, by omega⟩
        have erc : rcd (dd + 1) = 800 + 2 * (1 + mm dd * rcd dd) := rfl
        have en : ((3 - (dd + 1) : Nat) : Int) + 1 = ((3 - dd : Nat) : Int) := by omega
        refine ⟨_, rfl, _, rfl, 2, by decide, b, an, nm, k + 2 * (1 + mm dd * rcd dd) + 700, rfl, rc3.names, rc.nb, rc.nm2, nmo, by decide, B3.less (by have h36 : tc 2 = 36 := (by decide); omega), fun v e H4 t4 o4 B4 U4 => ?_⟩
        obtain ⟨ys3, hys3⟩ := B3.lst
        have rc4 := rc3.move st3 ⟨_, hys3⟩ (.but U4)
        have st4 := st3.but hys3 U4
        refine ⟨_, rfl, _, rfl, _, rfl, _, rfl, _, _, rfl, rfl, ?_⟩
        rw [eB hd1]
        refine ⟨b, sd, an, at_, nm, ti, L, k + (1 + mm dd * rcd dd), (by show [V.ref b, V.ref sd, V.int (((3 - (dd + 1) : Nat) : Int) + 1)] = _; rw [en]; rfl), by omega, rc4, st4, B4.less (by show k + (1 + mm dd * rcd dd) + (1 + mm dd * rcd dd) ≤ _; omega), fun p xs rs H5 hp hR ok hc' hst5 st5 B5 U5 => ?_⟩
        obtain ⟨ys4, hys4⟩ := B4.lst
        have rc5 := rc4.move st4 ⟨_, hys4⟩ U5
        have kt45 : KeepT H4 H5 := .but2 hys4 st4 U5
        refine ⟨_, rfl, _, rfl, _, rfl, _, _, rfl, rfl, ?_⟩
        refine ⟨b, sd, an, at_, nm, ti, L - rs.count, k, (by show [V.ref b, V.ref sd, V.int (((3 - (dd + 1) : Nat) : Int) + 1)] = _; rw [en]; rfl), by omega, rc5, st5, B5, fun p' xs' rs' H6 hp' hR' ok' hc6 hst6 st6 B6 U6 => ?_⟩
        obtain ⟨ys5, hys5⟩ := B5.lst
        have kt56 : KeepT H5 H6 := .but2 hys5 st5 U6
        refine ⟨(by show 4 ≤ sizeLine; decide), fun p7 hp7 => ?_⟩
        have s7 := same_new hp7 (.tup [.str "if", v, .ref p, .ref p'])
        have ec : (Rs.iff e rs rs' .nil).count = 1 + rs.count + rs'.count + 0 := rfl
        refine q (.ref p7) (.iff e rs rs' .nil) _ ⟨p7, v, p, xs, p', xs', [], rfl, upd_same, ((t4.keep kt45).keep kt56).same s7, s7 _ _ (kt56 _ _ hp), (hR.keep kt56).same s7, s7 _ _ hp', hR'.same s7, rfl⟩ ⟨by omega, Ex.of_fine6 rc.nmk (by omega) o4, ok, ok', trivial⟩ (by omega) ?_ ?_ (B6.same s7) (V3.trans ((But2.but U4).trans (U5.trans (U6.trans (.of s7)))))
        · intro st h
          have h' : st ∈ rs.starts ∨ st ∈ rs'.starts := by simpa [Rs.starts] using h
          rcases h' with h | h
          · exact hst5 st h
          · exact hst6 st h
        · have e7 : L + 1 - (Rs.iff e rs rs' .nil).count = L - rs.count - rs'.count := by omega
          rw [e7]
          exact st6.same s7
      · rintro σ' H' ⟨rfl, rfl⟩
        refine ⟨_, rfl, rfl, _, rfl, ?_⟩
        refine ite2 (fun c5 => ?_) (fun c5 => ?_)
        · -- give, fail
          refine ⟨(by show 2 ≤ sizeLine; decide), fun l hl' => ?_⟩
          have s4 := same_new hl' (.lst [.str "give", .str "fail"])
          have nlb : l ≠ b := fun z => by obtain ⟨ys, hy⟩ := B3.lst; rw [z, hy] at hl'; cases hl'
          refine ⟨_, rfl, b, 2, k + rcd d - 4, rfl, by decide, by decide, (B3.same s4).less (by omega), fun d1 H5 a1 a2 B5 U5 => ?_⟩
          have hl5 : H5 l = some (.lst [.str "give", .str "fail"]) := U5 _ _ nlb upd_same
          have mw : ∃ wd : Bool, atI [V.str "give", V.str "fail"] d1 = some (.str (giveW wd)) := by
            rcases (show d1 = 0 ∨ d1 = 1 by omega) with rfl | rfl
            · exact ⟨false, atI_nat (j := 0) rfl⟩
            · exact ⟨true, atI_nat (j := 1) rfl⟩
          obtain ⟨wd, ew⟩ := mw
          refine ⟨l, _, _, _, rfl, rfl, SqL.of hl5, ew, ?_⟩
          refine ⟨_, rfl, _, rfl, _, rfl, b, 4, k + rcd d - 5, rfl, by decide, by decide, B5.less (by omega), fun d2 H6 b1 b2 B6 U6 => ?_⟩
          have ed : ((1 + d2).toNat : Int) = 1 + d2 := Int.toNat_of_nonneg (by omega)
          have tcs : tc (1 + d2).toNat ≤ 180 := by
            rcases (show d2 = 0 ∨ d2 = 1 ∨ d2 = 2 ∨ d2 = 3 by omega) with rfl | rfl | rfl | rfl <;> decide
          have hn6 := U6 _ _ rc.nb (U5 _ _ rc.nb (s4 _ _ rc3.names))
          refine ⟨_, _, rfl, rfl, (1 + d2).toNat, by omega, b, an, nm, k + rcd d - 5 - 180, (by show [V.ref b, V.ref an, V.int (1 + d2)] = _; rw [ed]), hn6, rc.nb, rc.nm2, nmo, by omega, B6.less (by omega), fun v' e' H7 t7 o7 B7 U7 => ?_⟩
          refine ⟨(by show 2 ≤ sizeLine; decide), fun p hp => ?_⟩
          have s8 := same_new hp (.tup [.str (giveW wd), v'])
          exact fin (.ref p) (.give wd e' .nil) _ ⟨p, v', [], rfl, upd_same, t7.same s8, rfl⟩ ⟨Ex.of_fine6 rc.nmk (by omega) o7, trivial⟩ rfl (fun st h => (by cases h)) B3.lst ((B7.same s8).less (by omega)) ((But.of s4).trans (U5.trans (U6.trans (U7.trans (.of s8)))))
        · -- put
          refine ⟨_, rfl, _, rfl, _, rfl, _, rfl, b, 6, k + rcd d - 4, rfl, by decide, by decide, B3.less (by omega), fun d2 H6 b1 b2 B6 U6 => ?_⟩
          have ed : ((1 + d2).toNat : Int) = 1 + d2 := Int.toNat_of_nonneg (by omega)
          have tcs : tc (1 + d2).toNat ≤ 756 := by
            rcases (show d2 = 0 ∨ d2 = 1 ∨ d2 = 2 ∨ d2 = 3 ∨ d2 = 4 ∨ d2 = 5 by omega) with rfl | rfl | rfl | rfl | rfl | rfl <;> decide
          refine ⟨_, _, rfl, rfl, (1 + d2).toNat, by omega, b, an, nm, k, (by show [V.ref b, V.ref an, V.int (1 + d2)] = _; rw [ed]), U6 _ _ rc.nb rc3.names, rc.nb, rc.nm2, nmo, by omega, B6.less (by omega), fun v' e' H7 t7 o7 B7 U7 => ?_⟩
          refine ⟨(by show 3 ≤ sizeLine; decide), fun p hp => ?_⟩
          have s8 := same_new hp (.tup [.str "put", .str o1, v'])
          exact fin (.ref p) (.put o1 e' .nil) _ ⟨p, v', [], rfl, upd_same, t7.same s8, rfl⟩ ⟨ok1, Ex.of_fine6 rc.nmk (by omega) o7, trivial⟩ rfl (fun st h => (by cases h)) B3.lst (B7.same s8) (U6.trans (U7.trans (.of s8)))
end
end SH

set_option Elab.async false
set_option linter.all false
set_option maxRecDepth 100000
namespace SH
open PySem L2
abbrev sWorks : Stmt := topS 49
theorem scWorks : FnScope ["_law_bag_here", "_law_most", "_law_titles", "_law_names_here", "_law_some", "_law_found", "_law_title", "_law_many", "_law_at", "_law_handed", "_law_room", "_law_rows_here"] ["_law_bag_here", "_law_most"] (defScope sWorks) := ⟨rfl, rfl, rfl, by decide +kernel, rfl, by decide +kernel, by decide +kernel⟩
theorem mm_at {d : Nat} (h : d ≤ 3) : atI (([12, 4, 3, 3] : List Int).map V.int) ((3 - d : Nat) : Int) = some (.int ((mm d : Nat) + 1 : Int)) := by
  match d, h with
  | 0, _ => exact atI_nat (j := 3) rfl
  | 1, _ => exact atI_nat (j := 2) rfl
  | 2, _ => exact atI_nat (j := 1) rfl
  | 3, _ => exact atI_nat (j := 0) rfl
theorem mm_le {d : Nat} (h : d ≤ 3) : mm d ≤ 11 := by
  match d, h with
  | 0, _ => decide
  | 1, _ => decide
  | 2, _ => decide
  | 3, _ => decide
theorem RC.same {H H' : Hp} {b sd an at_ : Addr} {nm : List Str} {ti : List (Str × Nat)} (r : RC H b sd an at_ nm ti) (h : Same H H') : RC H' b sd an at_ nm ti := by
  obtain ⟨tvs, h1, h2⟩ := r.titles
  refine ⟨h _ _ r.names, ⟨tvs, h _ _ h1, h2.1, fun i v e => ?_⟩, r.nb, r.tb, r.nm1, r.nm2, r.nmk, r.ti1, r.ti2, r.tik⟩
  obtain ⟨t, e1, p, e2, e3⟩ := h2.2 i v e
  exact ⟨t, e1, p, e2, h _ _ e3⟩
section
variable {P : Program} {w : World} {K : PySem.W.Frag} {mg : Str → Option Value} {base : Heap}
theorem ok_rows {d : Nat} {f t r : Addr} {fd td rd : FuncData} (F : Fun K "_law_rows" "_law_rows" sRows f fd) (TK : Fk P w K mg base 1 "_law_take" t td ["_law_bag_here", "_law_many"] spTake) (RO : Fk P w K mg base (9 + 2 * d) "_law_row" r rd ["_law_bag_here", "_law_state", "_law_nested"] (spRow d)) (T : Bi mg) (mt : mg "tuple" = none) :
    FnOk P w K mg base CX0 (9 + 2 * d + 1) f fd ["_law_bag_here", "_law_state", "_law_nested"] (spRows d) := by
  refine F.ok scRows (fun vs H Q E h => ?_) (fun cdv A outer s H vs Q E hr h => ?_)
  · obtain ⟨b, sd, an, at_, nm, ti, L, k, rfl, _⟩ := h
    rfl
  obtain ⟨b, sd, an, at_, nm, ti, L, k, rfl, d3, rc, hst, hB, q⟩ := h
  refine ⟨_, (pss_cons (ps_set (i := 3) scRows.nd rfl (Or.inl rfl) (pe_callB (call_min2 rfl) (by rfl) T.min (by decide +kernel) (pa_cons (pe_call TK.G (hr.mono (by omega)) (by rfl) TK.m TK.k TK.b .nil pass0 (pa_cons (pv 0) (pa_cons (pe_ix ix_list (pe_lst (pa_cons pe_int (pa_cons pe_int (pa_cons pe_int (pa_cons pe_int pa_nil))))) (pv 2) (fun _ _ => rfl)) pa_nil))) (pa_cons (pe_dget (hu_of hr) (pv 1) pe_str (fun _ _ => rfl)) pa_nil))))
    (pss_cons (ps_dput (hu_of hr) (pv 1) pe_str (pe_op op_sub (pe_dget (hu_of hr) (pv 1) pe_str (fun _ _ => rfl)) (pv 3)) rfl)
    (pss_one (ps_ret (pe_callTy call_tuple_of (by rfl) mt (by decide +kernel) (pa_cons (pe_lc (own := [("_law_k", 4)]) (g := gName 4) (tt := tYes) (by rfl) scRows.nd (pi_range1 (by rfl) T.range (pa_cons (pv 3) pa_nil)) (blkOk_by (own := [("_law_k", 4)]) (N := ["_law_bag_here", "_law_state", "_law_nested", "_law_many", "_law_k"]) (sc := defScope sRows) (by decide +kernel)) (fun _ _ _ _ _ => pg_name (i := 4) scRows.nd rfl (Or.inl rfl)) (fun _ _ _ _ _ => pts_nil) (fun _ _ _ _ _ => (pe_call RO.G hr (by rfl) RO.m RO.k RO.b .nil pass0 (pa_cons (pv 0) (pa_cons (pv 1) (pa_cons (pv 2) pa_nil)))))) pa_nil)))))), ?_⟩
  have hs : sizeLine = 16777216 := by decide
  have hmm := mm_le d3
  obtain ⟨ys0, hys0⟩ := hB.lst
  refine ⟨_, rfl, (by show 4 ≤ sizeLine; decide), fun l hl => ?_⟩
  have s1 := same_new hl (.lst (([12, 4, 3, 3] : List Int).map V.int))
  refine ⟨_, rfl, l, _, _, _, rfl, rfl, SqL.of upd_same, mm_at d3, b, _, k + mm d * rcd d, rfl, by omega, by omega, (hB.same s1).less (by omega), fun d1 H1 a1 a2 B1 U1 => ?_⟩
  have U01 : But b H H1 := (But.of s1).trans U1
  have st1 := hst.but hys0 U01
  have rc1 := rc.move hst ⟨_, hys0⟩ (.but U01)
  obtain ⟨g1, g2, g3⟩ := st1.get
  obtain ⟨M, eM, hM1, hM2⟩ : ∃ M : Nat, (if ((L : Nat) : Int) < d1 then ((L : Nat) : Int) else d1) = ((M : Nat) : Int) ∧ M ≤ L ∧ M ≤ mm d := by
    split
    · exact ⟨L, rfl, Nat.le_refl _, by omega⟩
    · exact ⟨d1.toNat, by omega, by omega, by omega⟩
  refine ⟨_, rfl, sd, _, rfl, g3, _, _, rfl, ?_⟩
  rw [eM]
  have eL : ((L : Nat) : Int) - ((M : Nat) : Int) = ((L - M : Nat) : Int) := by omega
  have eP : putK (stK an at_ L) (Sum.inr "left") (.int (((L : Nat) : Int) - ((M : Nat) : Int))) = stK an at_ (L - M) := by rw [eL, st_put]
  have dput := DPut.k (k := Sum.inr "left") (v := .int (((L : Nat) : Int) - ((M : Nat) : Int))) (show H1 sd = some (.dK (stK an at_ L)) from st1) (by show 3 < sizeLine; decide)
  rw [eP] at dput
  refine ⟨_, rfl, sd, _, rfl, g3, _, rfl, _, _, rfl, rfl, _, rfl, sd, _, rfl, dput, ?_⟩
  have nsb : b ≠ sd := fun z => by unfold StL at st1; obtain ⟨ys, hy⟩ := B1.lst; rw [z, st1] at hy; cases hy
  have st2 : StL (upd H1 sd (.dK (stK an at_ (L - M)))) sd an at_ (L - M) := upd_same
  have U12 : But2 b sd H1 (upd H1 sd (.dK (stK an at_ (L - M)))) := fun a o _ nd e => by rw [upd_ne nd]; exact e
  have B2 : Bag (upd H1 sd (.dK (stK an at_ (L - M)))) b (k + mm d * rcd d) := by
    obtain ⟨x, y, z, e, rr⟩ := B1
    exact ⟨x, y, z, by rw [upd_ne nsb]; exact e, rr⟩
  have rc2 := rc1.move st1 B1.lst U12
  have V2 : But2 b sd H (upd H1 sd (.dK (stK an at_ (L - M)))) := (But2.but U01).trans U12
  generalize upd H1 sd (.dK (stK an at_ (L - M))) = H2 at st2 U12 B2 rc2 V2
  refine ⟨_, rfl, _, rfl, by omega, by omega, ?_⟩
  intro D hD
  have nDb : D ≠ b := fun z => by obtain ⟨ys, hy⟩ := B2.lst; rw [z, hy] at hD; cases hD
  have nDs : D ≠ sd := fun z => by unfold StL at st2; rw [z, st2] at hD; cases hD
  have sD := same_new hD (.lst [])
  refine lc_range (lo := 0) (n := ((M : Nat) : Int).toNat) (fun j H' => ∃ (rs : Rs) (vs : List V), H' D = some (.lst vs) ∧ RsIn H' rs vs ∧ vs.length = j ∧ Rs.ok d rs ∧ j ≤ rs.count ∧ rs.count - j ≤ L - M ∧ (∀ st ∈ rs.starts, st ∈ ti) ∧ StL H' sd an at_ (L - M - (rs.count - j)) ∧ Bag H' b (k + (mm d - j) * rcd d) ∧ But2 b sd H2 H') ?_ ?_ ?_
  · exact ⟨.nil, [], upd_same, rfl, rfl, trivial, Nat.le_refl _, Nat.zero_le _, fun st h => (by cases h), st2.same sD, B2.same sD, .of sD⟩
  · rintro j H3 hj ⟨rs, vs, hD3, hR, hl3, ok3, c1, c2, hs3, st3, B3, U3⟩
    have hjM : j < M := by omega
    refine ⟨rfl, ?_⟩
    have rc3 := rc2.move st2 B2.lst U3
    have eB : k + (mm d - j) * rcd d = k + (mm d - (j + 1)) * rcd d + rcd d := by
      rw [show mm d - j = (mm d - (j + 1)) + 1 by omega, Nat.succ_mul]
      omega
    rw [eB] at B3
    refine ⟨_, rfl, _, rfl, _, rfl, b, sd, an, at_, nm, ti, _, _, rfl, d3, rc3, st3, B3, fun v r1 H4 hR1 ok1 k1 hs1 st4 B4 U4 => ?_⟩
    obtain ⟨ys3, hys3⟩ := B3.lst
    have kt : KeepT H3 H4 := .but2 hys3 st3 U4
    have hD4 := U4 _ _ nDb nDs hD3
    have k5 : KeepT H4 (upd H4 D (.lst (vs ++ [v]))) := .upd hD4 (fun xs z => by cases z)
    have r1c : 1 ≤ r1.count := by
      have := r1.count_eq
      have := Rs.rc_pos hR1
      omega
    refine ⟨_, hD4, by omega, rs.app r1, vs ++ [v], upd_same, RsIn.app (hR1.keep k5) ((hR.keep kt).keep k5), by rw [List.length_append, hl3]; rfl, Rs.app_ok ok1 ok3, by rw [Rs.app_count]; omega, by rw [Rs.app_count]; omega, ?_, ?_, ?_, ?_⟩
    · intro st h
      rw [Rs.app_starts] at h
      rcases List.mem_append.mp h with h | h
      · exact hs3 st h
      · exact hs1 st h
    · have e : L - M - ((rs.app r1).count - (j + 1)) = L - M - (rs.count - j) + 1 - r1.count := by rw [Rs.app_count]; omega
      rw [e]
      unfold StL
      rw [upd_ne (Ne.symm nDs)]
      exact st4
    · obtain ⟨x', y', z', e, rr⟩ := B4
      exact ⟨x', y', z', by rw [upd_ne (Ne.symm nDb)]; exact e, rr⟩
    · intro a o na nd e
      rw [upd_ne (ne_of_none e hD)]
      exact U4 _ _ na nd (U3 _ _ na nd e)
  · rintro H3 ⟨rs, vs, hD3, hR, hl3, ok3, c1, c2, hs3, st3, B3, U3⟩
    have eM' : ((M : Nat) : Int).toNat = M := Int.toNat_natCast M
    rw [eM'] at c1 c2 st3
    refine ⟨D, vs, rfl, .inl ⟨SqL.of hD3, fun p hp => ?_⟩⟩
    have s4 := same_new hp (.tup vs)
    refine q p vs rs _ upd_same (hR.same s4) ok3 (by omega) hs3 ?_ ((B3.same s4).less (by omega)) (V2.trans (U3.trans (.of s4)))
    rw [show L - rs.count = L - M - (rs.count - M) by omega]
    exact st3.same s4
end
end SH

set_option Elab.async false
set_option linter.all false
set_option maxRecDepth 100000
namespace SH
open PySem L2
theorem cutV_from {xs : List V} {n : Nat} (h : n ≤ xs.length) : cutV xs (some (n : Int)) none = xs.drop n := by
  unfold cutV
  rw [HT.sIx_nat, HT.sIx_none, Nat.min_eq_left h]
  exact List.take_of_length_le (by rw [List.length_drop]; exact Nat.le_refl _)
theorem cutV_to {xs : List V} {n : Nat} (h : n ≤ xs.length) : cutV xs none (some (n : Int)) = xs.take n := by
  unfold cutV
  rw [HT.sIx_nat, HT.sIx_none, Nat.min_eq_left h]
  show (xs.drop 0).take (n - 0) = _
  rw [List.drop_zero, Nat.sub_zero]
/-- the names from a place on and round, so many -/
def rot (nm : List Str) (a m : Nat) : List Str := (nm.drop a ++ nm.take a).take m
theorem rot_len {nm : List Str} {a m : Nat} (ha : a ≤ nm.length) (h : m ≤ nm.length) : (rot nm a m).length = m := by
  unfold rot
  rw [List.length_take, List.length_append, List.length_drop, List.length_take]
  omega
theorem rot_nd {nm : List Str} {a m : Nat} (h : nm.Nodup) : (rot nm a m).Nodup := by
  unfold rot
  have e : (nm.take a ++ nm.drop a).Nodup := by rw [List.take_append_drop]; exact h
  have e2 : (nm.drop a ++ nm.take a).Nodup := (List.perm_append_comm.nodup_iff).mp e
  exact e2.sublist (List.take_sublist _ _)
theorem rot_mem {nm : List Str} {a m : Nat} {s : Str} (h : s ∈ rot nm a m) : s ∈ nm := by
  unfold rot at h
  rcases List.mem_append.mp (List.mem_of_mem_take h) with h | h
  · exact List.mem_of_mem_drop h
  · exact List.mem_of_mem_take h
def spWorks : Sp := fun vs H Q _ => ∃ (b : Addr) (M k : Nat), vs = [.ref b, .int (M : Nat)] ∧ 1 ≤ M ∧ M ≤ 12 ∧ Bag H b (k + M * 1200000 + 1000) ∧
  ∀ (l : Addr) (us : List V) (Ws : List Wk) (H' : Hp), H l = none → H' l = some (.lst us) → WksIn H' Ws us → WksOk Ws → 1 ≤ Ws.length → Ws.length ≤ M → Bag H' b k → But b H H' → Q (.ref l) H'
section
variable {P : Program} {w : World} {K : PySem.W.Frag} {mg : Str → Option Value} {base : Heap}
theorem rowsAll {f t u r : Addr} {fd td ud rd : FuncData} (F : Fun K "_law_row" "_law_row" sRow f fd) (mF : mg "_law_row" = some (.ref f)) (bF : Binds K fd ["_law_bag_here", "_law_state", "_law_nested"] []) (FR : Fun K "_law_rows" "_law_rows" sRows r rd) (mR : mg "_law_rows" = some (.ref r)) (bR : Binds K rd ["_law_bag_here", "_law_state", "_law_nested"] [])
    (TK : Fk P w K mg base 1 "_law_take" t td ["_law_bag_here", "_law_many"] spTake) (TR : Fk P w K mg base 8 "_law_tree" u ud ["_law_bag_here", "_law_names_here", "_law_deep_here"] (spTrees 6)) (T : Bi mg) (mt : mg "tuple" = none) : ∀ d : Nat, FnOk P w K mg base CX0 (9 + 2 * d + 1) r rd ["_law_bag_here", "_law_state", "_law_nested"] (spRows d)
  | 0 => ok_rows (d := 0) FR TK ⟨ok_row (d := 0) F TK TR (fun h => absurd h (by decide)) mR FR.kp bR T mt, mF, F.kp, bF⟩ T mt
  | d + 1 => ok_rows (d := d + 1) FR TK ⟨ok_row (d := d + 1) F TK TR (fun _ => by
      have z := rowsAll F mF bF FR mR bR TK TR T mt d
      rw [show 8 + 2 * (d + 1) = 9 + 2 * d + 1 by omega]
      exact z) mR FR.kp bR T mt, mF, F.kp, bF⟩ T mt
set_option maxHeartbeats 4000000 in
theorem ok_works {f t n r : Addr} {fd td nd rd : FuncData} (F : Fun K "_law_works" "_law_works" sWorks f fd) (TK : Fk P w K mg base 1 "_law_take" t td ["_law_bag_here", "_law_many"] spTake) (NM : Fk P w K mg base 2 "_law_names" n nd ["_law_bag_here", "_law_many"] spNames) (RW : Fk P w K mg base 16 "_law_rows" r rd ["_law_bag_here", "_law_state", "_law_nested"] (spRows 3)) (T : Bi mg) (mt : mg "tuple" = none) :
    FnOk P w K mg base CX0 17 f fd ["_law_bag_here", "_law_most"] spWorks := by
  refine F.ok scWorks (fun vs H Q E h => ?_) (fun cdv A outer s H vs Q E hr h => ?_)
  · obtain ⟨b, M, k, rfl, _⟩ := h
    rfl
  obtain ⟨b, M, k, rfl, m1, m12, hB, q⟩ := h
  refine ⟨_, (pss_cons (ps_set (i := 2) scWorks.nd rfl (Or.inl rfl) (pe_call NM.G (hr.mono (by omega)) (by rfl) NM.m NM.k NM.b .nil pass0 (pa_cons (pv 0) (pa_cons (pe_op op_add pe_int (pe_call TK.G (hr.mono (by omega)) (by rfl) TK.m TK.k TK.b .nil pass0 (pa_cons (pv 0) (pa_cons (pv 1) pa_nil)))) pa_nil))))
    (pss_cons (ps_set (i := 3) scWorks.nd rfl (Or.inl rfl) (pe_call NM.G (hr.mono (by omega)) (by rfl) NM.m NM.k NM.b .nil pass0 (pa_cons (pv 0) (pa_cons pe_int pa_nil))))
    (pss_cons (ps_setLc (i := 4) (own := [("_law_title", 6)]) (g := gName 6) (tt := tYes) (by rfl) scWorks.nd rfl rfl (sw_true rfl rfl rfl (by decide +kernel)) (pi_list (pv 2)) (blkOk_by (own := [("_law_title", 6)]) (N := ["_law_bag_here", "_law_most", "_law_titles", "_law_names_here", "_law_some", "_law_found", "_law_title", "_law_many", "_law_at", "_law_handed", "_law_room", "_law_rows_here"]) (sc := defScope sWorks) (by decide +kernel)) (fun _ _ _ _ _ => pg_name (i := 6) scWorks.nd rfl (Or.inl rfl)) (fun _ _ _ _ _ => pts_nil) (fun _ _ _ _ _ => (pe_tup (pa_cons (pv 6) (pa_cons (pe_call TK.G (hr.mono (by omega)) (by rfl) TK.m TK.k TK.b .nil pass0 (pa_cons (pv 0) (pa_cons pe_int pa_nil))) pa_nil)))))
    (pss_cons (ps_set (i := 5) scWorks.nd rfl (Or.inl rfl) (pe_lst pa_nil))
    (pss_cons (ps_for PassesOwn.never rfl (pi_list (pv 4)) (pg_tup rfl (pgs_cons (pg_name (i := 6) scWorks.nd rfl (.inl rfl)) (pgs_cons (pg_name (i := 7) scWorks.nd rfl (.inl rfl)) pgs_nil)))
      (pss_cons (ps_set (i := 8) scWorks.nd rfl (Or.inl rfl) (pe_call TK.G (hr.mono (by omega)) (by rfl) TK.m TK.k TK.b .nil pass0 (pa_cons (pv 0) (pa_cons pe_int pa_nil))))
    (pss_cons (ps_set (i := 9) scWorks.nd rfl (Or.inl rfl) (pe_callTy call_tuple_of (by rfl) mt (by decide +kernel) (pa_cons (pe_slice sl_list (pe_op op_cat (pe_slice sl_list (pv 3) (po_some (pv 8)) po_none) (pe_slice sl_list (pv 3) po_none (po_some (pv 8)))) po_none (po_some (pv 7))) pa_nil)))
    (pss_cons (ps_set (i := 10) scWorks.nd rfl (Or.inl rfl) (pe_ix ix_list (pe_lst (pa_cons pe_int (pa_cons pe_int (pa_cons (pe_call TK.G (hr.mono (by omega)) (by rfl) TK.m TK.k TK.b .nil pass0 (pa_cons (pv 0) (pa_cons pe_int pa_nil))) (pa_cons (pe_call TK.G (hr.mono (by omega)) (by rfl) TK.m TK.k TK.b .nil pass0 (pa_cons (pv 0) (pa_cons pe_int pa_nil))) pa_nil))))) (pe_call TK.G (hr.mono (by omega)) (by rfl) TK.m TK.k TK.b .nil pass0 (pa_cons (pv 0) (pa_cons pe_int pa_nil))) (fun _ _ => rfl)))
    (pss_cons (ps_set (i := 11) scWorks.nd rfl (Or.inl rfl) (pe_call RW.G hr (by rfl) RW.m RW.k RW.b .nil pass0 (pa_cons (pv 0) (pa_cons (pe_disp (pps_cons pe_str (pv 3) (pps_cons pe_str (pv 4) (pps_cons pe_str pe_int pps_nil))) (by rfl) (by rfl) (fun z => by cases z) (by decide)) (pa_cons pe_int pa_nil)))))
    (pss_one (ps_expr (pe_bm PySem.F.plainAttrs_list PySem.F.slot_list_append PySem.F.type_list_append mt_append (pv 5) (pa_cons (pe_tup (pa_cons pe_str (pa_cons (pv 6) (pa_cons (pv 9) (pa_cons (pv 10) (pa_cons (pv 11) pa_nil)))))) pa_nil)))))))))
    (pss_one (ps_ret (pv 5)))))))), ?_⟩
  have hs : sizeLine = 16777216 := by decide
  have rw3 : 1 + mm 3 * rcd 3 = 1118283 := by decide
  -- titles
  refine ⟨_, rfl, _, rfl, _, rfl, b, _, k + M * 1200000 + 999, rfl, by omega, by omega, hB.less (by omega), fun d1 H1 a1 a2 B1 U1 => ?_⟩
  have ed : ((1 + d1).toNat : Int) = 1 + d1 := Int.toNat_of_nonneg (by omega)
  refine ⟨_, _, rfl, rfl, b, (1 + d1).toNat, k + M * 1200000 + 799, (by show [V.ref b, V.int (1 + d1)] = _; rw [ed]), by omega, B1.less (by omega), fun pt tl H2 npt hpt ltl okt B2 U2 => ?_⟩
  have ntb : pt ≠ b := fun z => by obtain ⟨ys, hy⟩ := B1.lst; rw [z, hy] at npt; cases npt
  -- names
  refine ⟨_, rfl, b, 5, k + M * 1200000 + 700, rfl, by decide, B2.less (by omega), fun pn nm H3 npn hpn lnm okn B3 U3 => ?_⟩
  have nnb : pn ≠ b := fun z => by obtain ⟨ys, hy⟩ := B2.lst; rw [z, hy] at npn; cases npn
  have hpt3 := U3 _ _ ntb hpt
  -- some
  refine ⟨_, rfl, pt, rfl, ⟨_, SqL.of hpt3⟩, ?_⟩
  intro D hD
  have nDb : D ≠ b := fun z => by obtain ⟨ys, hy⟩ := B3.lst; rw [z, hy] at hD; cases hD
  refine lc_list (K := K) (a := pt) (xs := tl.map V.str) (fun j H' => ∃ (ti : List (Str × Nat)) (vs : List V), H' D = some (.lst vs) ∧ TisIn H' ti vs ∧ ti.map Prod.fst = tl.take j ∧ (∀ x ∈ ti, x.2 ≤ 4) ∧ Bag H' b (k + M * 1200000 + 700 - j) ∧ But b H3 H') ?_ ?_ ?_ ?_
  · exact ⟨[], [], upd_same, ⟨rfl, fun i v e => (by simp at e)⟩, rfl, fun x h => (by cases h), B3.same (same_new hD _), But.new hD _⟩
  · rintro j H' _ ⟨_, _, _, _, _, _, _, U⟩
    exact SqL.of (U _ _ ntb hpt3)
  · rintro j x H4 hx ⟨ti, vs, hD4, tin, etl, h4, B4, U4⟩
    obtain ⟨z, hz, rfl⟩ : ∃ z, tl[j]? = some z ∧ V.str z = x := by
      rw [List.getElem?_map] at hx
      obtain ⟨x', h1, h2⟩ := Option.map_eq_some_iff.mp hx
      exact ⟨x', h1, h2⟩
    have hj : j < tl.length := (List.getElem?_eq_some_iff.mp hz).1
    have lti : ti.length = j := by
      have := congrArg List.length etl
      rw [List.length_map, List.length_take] at this
      omega
    refine ⟨rfl, ?_⟩
    refine ⟨_, rfl, _, rfl, b, 5, k + M * 1200000 + 699 - j, rfl, by decide, by decide, B4.less (by omega), fun d2 H5 b1 b2 B5 U5 => ?_⟩
    refine ⟨(by show 2 ≤ sizeLine; decide), fun p hp => ?_⟩
    have s6 := same_new hp (.tup [.str z, .int d2])
    have hD5 := U5 _ _ nDb hD4
    have e2 : ((d2.toNat : Nat) : Int) = d2 := Int.toNat_of_nonneg b1
    obtain ⟨ys4, hys4⟩ := B4.lst
    have kt : KeepT H4 (upd H5 p (.tup [.str z, .int d2])) := (KeepT.but hys4 U5).trans (.of s6)
    have hD6 := s6 _ _ hD5
    have k7 : KeepT (upd H5 p (.tup [.str z, .int d2])) (upd (upd H5 p (.tup [.str z, .int d2])) D (.lst (vs ++ [.ref p]))) := .upd hD6 (fun xs z => by cases z)
    have vl : vs.length = j := by rw [tin.1, lti]
    refine ⟨_, hD6, by omega, ti ++ [(z, d2.toNat)], vs ++ [.ref p], upd_same, ⟨by rw [List.length_append, List.length_append, tin.1]; rfl, fun i v e => ?_⟩, ?_, ?_, ?_, ?_⟩
    · by_cases hi : i < vs.length
      · rw [List.getElem?_append_left hi] at e
        obtain ⟨t', e1, p', e3, e4⟩ := tin.2 i v e
        refine ⟨t', ?_, p', e3, k7 _ _ (kt _ _ e4)⟩
        rw [List.getElem?_append_left (by rw [← tin.1]; exact hi)]
        exact e1
      · rw [List.getElem?_append_right (by omega)] at e
        have hi0 : i - vs.length = 0 := by
          rcases Nat.eq_zero_or_pos (i - vs.length) with z | z
          · exact z
          · rw [List.getElem?_eq_none (by show 1 ≤ _; omega)] at e
            cases e
        rw [hi0] at e
        cases e
        refine ⟨(z, d2.toNat), ?_, p, rfl, k7 _ _ ?_⟩
        · rw [List.getElem?_append_right (by rw [← tin.1]; omega), ← tin.1, hi0]
          rfl
        · show (upd H5 p (.tup [.str z, .int d2])) p = some (.tup [.str z, .int ((d2.toNat : Nat) : Int)])
          rw [e2]
          exact upd_same
    · rw [List.map_append, etl, List.take_add_one, hz]
      rfl
    · intro x hx'
      rcases List.mem_append.mp hx' with h | h
      · exact h4 x h
      · rw [List.mem_singleton.mp h]
        show d2.toNat ≤ 4
        omega
    · obtain ⟨x', y', z', e, rr⟩ := B5.same s6
      exact Bag.less ⟨x', y', z', by rw [upd_ne (Ne.symm nDb)]; exact e, rr⟩ (by omega)
    · intro a o na e
      rw [upd_ne (ne_of_none e hD)]
      exact s6 _ _ (U5 _ _ na (U4 _ _ na e))
  rintro H4 ⟨ti, tvs, hD4, tin, etl, h4, B4, U4⟩
  rw [List.length_map, List.take_length] at etl
  have hpn4 := U4 _ _ nnb hpn
  have lti : ti.length = tl.length := by rw [← etl, List.length_map]
  rw [List.length_map] at B4
  have tik : ∀ x ∈ ti, NmOk x.1 ∧ x.2 ≤ 4 := fun x hx => ⟨by
    have : x.1 ∈ tl := by rw [← etl]; exact List.mem_map_of_mem hx
    exact okt.each _ this, h4 x hx⟩
  have tnd : (ti.map Prod.fst).Nodup := by rw [etl]; exact okt.nd
  -- found
  refine ⟨Nat.zero_le _, fun l hl => ?_⟩
  have s5 := same_new hl (.lst [])
  have nlb : l ≠ b := fun z => by obtain ⟨ys, hy⟩ := B4.lst; rw [z, hy] at hl; cases hl
  have nlD : l ≠ D := fun z => by rw [z, hD4] at hl; cases hl
  have nlp : l ≠ pn := fun z => by rw [z, hpn4] at hl; cases hl
  refine ⟨_, rfl, D, rfl, ⟨_, SqL.of (s5 _ _ hD4)⟩, ?_⟩
  refine for_list (K := K) (a := D) (xs := tvs) (fun i σ H' => ∃ (us : List V) (Ws : List Wk) (y6 y7 y8 y9 y10 y11 : Option V), σ = [some (.ref b), some (.int (M : Nat)), some (.ref pt), some (.ref pn), some (.ref D), some (.ref l), y6, y7, y8, y9, y10, y11] ∧ H' l = some (.lst us) ∧ WksIn H' Ws us ∧ (∀ W ∈ Ws, W.ok ∧ ∀ st ∈ W.rows.starts, st ∈ ti) ∧ Ws.map (fun W => (W.name, W.names.length)) = ti.take i ∧
    Bag H' b (k + (M - i) * 1200000 + 600) ∧ But b H4 H') ?_ ?_ ?_ ?_
  · exact ⟨[], [], none, none, none, none, none, none, rfl, upd_same, ⟨rfl, fun i v e => (by simp at e)⟩, fun W h => (by cases h), rfl, (B4.same s5).less (by omega), .of s5⟩
  · rintro i σ H' _ ⟨_, _, _, _, _, _, _, _, _, _, _, _, _, _, U⟩
    exact SqL.of (U _ _ nDb hD4)
  · rintro i v σ H5 hv ⟨us, Ws, y6, y7, y8, y9, y10, y11, rfl, hl5, hW, hok, eti, B5, U5⟩
    obtain ⟨tt, htt, p, rfl, hp⟩ := tin.2 i v hv
    have hi : i < ti.length := (List.getElem?_eq_some_iff.mp htt).1
    have hiM : i < M := by omega
    have tm := tik tt (List.mem_of_getElem? htt)
    obtain ⟨ys4, hys4⟩ := B4.lst
    obtain ⟨ys5, hys5⟩ := B5.lst
    have kt45 : KeepT H4 H5 := .but hys4 U5
    have eB : k + (M - i) * 1200000 + 600 = k + (M - (i + 1)) * 1200000 + 600 + 1200000 := by
      rw [show M - i = (M - (i + 1)) + 1 by omega, Nat.succ_mul]
      omega
    rw [eB] at B5
    generalize hKK : k + (M - (i + 1)) * 1200000 + 600 = KK at B5
    refine ⟨p, _, rfl, SqT.of (kt45 _ _ hp), rfl, _, _, rfl, _, _, rfl, rfl, ?_⟩
    have hpn5 := U5 _ _ nnb hpn4
    -- at, handed
    refine ⟨_, rfl, b, 5, KK + 1190000, rfl, by decide, by decide, B5.less (by omega), fun at1 H6 a1' a2' B6 U6 => ?_⟩
    have ea : ((at1.toNat : Nat) : Int) = at1 := Int.toNat_of_nonneg a1'
    have hpn6 := U6 _ _ nnb hpn5
    have lnm' : (nm.map V.str).length = 5 := by rw [List.length_map, lnm]
    refine ⟨_, rfl, _, rfl, at1, rfl, pn, _, rfl, SqL.of hpn6, fun c1 hc1 => ?_⟩
    have ec1 : cutV (nm.map V.str) (some at1) none = (nm.drop at1.toNat).map V.str := by
      have := cutV_from (xs := nm.map V.str) (n := at1.toNat) (by rw [lnm']; omega)
      rw [ea] at this
      rw [this, List.map_drop]
    rw [ec1]
    have s7 := same_new hc1 (.lst ((nm.drop at1.toNat).map V.str))
    have h7 : (upd H6 c1 (.lst ((nm.drop at1.toNat).map V.str))) c1 = some (.lst ((nm.drop at1.toNat).map V.str)) := upd_same
    generalize upd H6 c1 (.lst ((nm.drop at1.toNat).map V.str)) = H7 at s7 h7
    refine ⟨_, rfl, _, rfl, at1, rfl, pn, _, rfl, SqL.of (s7 _ _ hpn6), fun c2 hc2 => ?_⟩
    have ec2 : cutV (nm.map V.str) none (some at1) = (nm.take at1.toNat).map V.str := by
      have := cutV_to (xs := nm.map V.str) (n := at1.toNat) (by rw [lnm']; omega)
      rw [ea] at this
      rw [this, List.map_take]
    rw [ec2]
    have s8 := same_new hc2 (.lst ((nm.take at1.toNat).map V.str))
    have h8 : (upd H7 c2 (.lst ((nm.take at1.toNat).map V.str))) c2 = some (.lst ((nm.take at1.toNat).map V.str)) := upd_same
    generalize upd H7 c2 (.lst ((nm.take at1.toNat).map V.str)) = H8 at s8 h8
    refine ⟨c1, c2, _, _, rfl, rfl, s8 _ _ h7, h8, ?_, fun c3 hc3 => ?_⟩
    · rw [List.length_map, List.length_map, List.length_drop, List.length_take]; omega
    rw [← List.map_append]
    have s9 := same_new hc3 (.lst ((nm.drop at1.toNat ++ nm.take at1.toNat).map V.str))
    have h9 : (upd H8 c3 (.lst ((nm.drop at1.toNat ++ nm.take at1.toNat).map V.str))) c3 = some (.lst ((nm.drop at1.toNat ++ nm.take at1.toNat).map V.str)) := upd_same
    generalize upd H8 c3 (.lst ((nm.drop at1.toNat ++ nm.take at1.toNat).map V.str)) = H9 at s9 h9
    have l5 : (nm.drop at1.toNat ++ nm.take at1.toNat).length = 5 := by rw [List.length_append, List.length_drop, List.length_take]; omega
    refine ⟨_, rfl, _, rfl, c3, _, rfl, SqL.of h9, fun c4 hc4 => ?_⟩
    have ec4 : cutV ((nm.drop at1.toNat ++ nm.take at1.toNat).map V.str) none (some ((tt.2 : Nat) : Int)) = (rot nm at1.toNat tt.2).map V.str := by
      rw [cutV_to (by rw [List.length_map, l5]; omega)]
      unfold rot
      rw [List.map_take]
    rw [ec4]
    have s10 := same_new hc4 (.lst ((rot nm at1.toNat tt.2).map V.str))
    refine ⟨c4, _, rfl, .inl ⟨SqL.of upd_same, fun pH hpH => ?_⟩⟩
    have s11 := same_new hpH (.tup ((rot nm at1.toNat tt.2).map V.str))
    have hH : (upd (upd H9 c4 (.lst ((rot nm at1.toNat tt.2).map V.str))) pH (.tup ((rot nm at1.toNat tt.2).map V.str))) pH = some (.tup ((rot nm at1.toNat tt.2).map V.str)) := upd_same
    have sA := s7.trans (s8.trans (s9.trans (s10.trans s11)))
    generalize upd (upd H9 c4 (.lst ((rot nm at1.toNat tt.2).map V.str))) pH (.tup ((rot nm at1.toNat tt.2).map V.str)) = HA at sA hH
    have BA := B6.same sA
    have UA : But b H5 HA := U6.trans (.of sA)
    obtain ⟨ysA, hysA⟩ := BA.lst
    -- room
    refine ⟨_, rfl, b, 10, KK + 1180000, rfl, by decide, by decide, BA.less (by omega), fun r1 HB c1' c2' BB UB => ?_⟩
    refine ⟨_, rfl, b, 1001, KK + 1170000, rfl, by decide, by decide, BB.less (by omega), fun r2 HC c3' c4' BC UC => ?_⟩
    refine ⟨(by show 4 ≤ sizeLine; decide), fun pl hpl => ?_⟩
    have sD := same_new hpl (.lst [.int 0, .int 1, .int r1, .int r2])
    have nplb : pl ≠ b := fun z => by obtain ⟨ys, hy⟩ := BC.lst; rw [z, hy] at hpl; cases hpl
    refine ⟨_, rfl, b, 4, KK + 1160000, rfl, by decide, by decide, (BC.same sD).less (by omega), fun r3 HE c5' c6' BE UE => ?_⟩
    have hpl' : HE pl = some (.lst [.int 0, .int 1, .int r1, .int r2]) := UE _ _ nplb upd_same
    have mr : ∃ room : Int, atI [V.int 0, V.int 1, V.int r1, V.int r2] r3 = some (.int room) ∧ 0 ≤ room ∧ room ≤ 1000 := by
      rcases (show r3 = 0 ∨ r3 = 1 ∨ r3 = 2 ∨ r3 = 3 by omega) with rfl | rfl | rfl | rfl
      · exact ⟨0, atI_nat (j := 0) rfl, by decide, by decide⟩
      · exact ⟨1, atI_nat (j := 1) rfl, by decide, by decide⟩
      · exact ⟨r1, atI_nat (j := 2) rfl, c1', by omega⟩
      · exact ⟨r2, atI_nat (j := 3) rfl, c3', by omega⟩
    obtain ⟨room, er, room0, room1⟩ := mr
    refine ⟨pl, _, _, _, rfl, rfl, SqL.of hpl', er, ?_⟩
    have UAE : But b HA HE := UB.trans (UC.trans ((But.of sD).trans UE))
    have U5E : But b H5 HE := UA.trans UAE
    have hpnE := U5E _ _ nnb hpn5
    have hDE := U5E _ _ nDb (U5 _ _ nDb hD4)
    have kt5E : KeepT H5 HE := .but hys5 U5E
    -- rows
    refine ⟨_, rfl, ?_⟩
    refine fun sd hsd => ?_
    have sE := same_new hsd (.dK [])
    refine ⟨_, rfl, _, rfl, upd_same, stK pn D 40, rfl, by show 3 ≤ 15; decide, ?_⟩
    have eM : mergeK [] (stK pn D 40) = stK pn D 40 := by
      unfold mergeK stK
      simp [putK, k_nl, k_tl, k_nt]
    have eU : upd (upd HE sd (.dK [])) sd (.dK (mergeK [] (stK pn D 40))) = upd HE sd (.dK (stK pn D 40)) := by
      rw [eM]
      funext a
      by_cases ha : a = sd
      · subst ha; rw [upd_same, upd_same]
      · rw [upd_ne ha, upd_ne ha, upd_ne ha]
    rw [eU]
    have sF := same_new hsd (.dK (stK pn D 40))
    have stF : StL (upd HE sd (.dK (stK pn D 40))) sd pn D 40 := upd_same
    generalize upd HE sd (.dK (stK pn D 40)) = HF at sF stF
    have rcF : RC HF b sd pn D nm ti := ⟨sF _ _ hpnE, ⟨tvs, sF _ _ hDE, tin.1, fun i v e => by
      obtain ⟨t', e1, p', e3, e4⟩ := tin.2 i v e
      exact ⟨t', e1, p', e3, sF _ _ (kt5E _ _ (kt45 _ _ e4))⟩⟩, nnb, nDb, by omega, by omega, fun s h => okn.each s h, by omega, by omega, tik⟩
    refine ⟨b, sd, pn, D, nm, ti, 40, KK, rfl, by decide, rcF, stF, (BE.same sF).less (by rw [rw3]; omega), fun pr xs rs HG hpr hR okR cR stR stG BG UG => ?_⟩
    obtain ⟨ysF, hysF⟩ := (BE.same sF).lst
    have ktFG : KeepT HF HG := .but2 hysF stF UG
    have UEG : But b HE HG := fun a o na e => UG a o na (ne_of_none e hsd) (sF _ _ e)
    have UAG : But b HA HG := UAE.trans UEG
    have U5G : But b H5 HG := U5E.trans UEG
    have hl' : HG l = some (.lst us) := U5G _ _ nlb hl5
    refine ⟨_, rfl, .inl ⟨rfl, _, SqL.of hl'⟩, ?_⟩
    refine ⟨_, rfl, _, rfl, _, rfl, _, rfl, (by show 5 ≤ sizeLine; decide), fun pw hpw => ?_⟩
    have sH := same_new hpw (.tup [.str "work", .str tt.1, .ref pH, .int room, .ref pr])
    have hlH := sH _ _ hl'
    have lW : Ws.length = i := by
      have := congrArg List.length eti
      rw [List.length_map, List.length_take] at this
      omega
    refine ⟨l, _, _, rfl, rfl, hlH, by rw [hW.1]; omega, ?_⟩
    have kI : KeepT (upd HG pw (.tup [.str "work", .str tt.1, .ref pH, .int room, .ref pr])) (upd (upd HG pw (.tup [.str "work", .str tt.1, .ref pH, .int room, .ref pr])) l (.lst (us ++ [.ref pw]))) := .upd hlH (fun xs z => by cases z)
    have ktAG : KeepT HA HG := .but hysA UAG
    have kt5G : KeepT H5 HG := .but hys5 U5G
    have W1 : WkIn (upd (upd HG pw (.tup [.str "work", .str tt.1, .ref pH, .int room, .ref pr])) l (.lst (us ++ [.ref pw]))) ⟨tt.1, rot nm at1.toNat tt.2, room, rs⟩ (.ref pw) :=
      ⟨pw, pH, pr, xs, rfl, kI _ _ upd_same, kI _ _ (sH _ _ (ktAG _ _ hH)), kI _ _ (sH _ _ hpr), (hR.same sH).keep kI⟩
    have rl : (rot nm at1.toNat tt.2).length = tt.2 := rot_len (by omega) (by omega)
    have W1ok : Wk.ok ⟨tt.1, rot nm at1.toNat tt.2, room, rs⟩ := ⟨tm.1, by rw [rl]; omega, fun s h => okn.each s (rot_mem h), rot_nd okn.nd, room0, room1, okR, cR⟩
    refine ⟨us ++ [.ref pw], Ws ++ [⟨tt.1, rot nm at1.toNat tt.2, room, rs⟩], _, _, _, _, _, _, rfl, upd_same, ⟨by rw [List.length_append, List.length_append, hW.1]; rfl, fun j v e => ?_⟩, ?_, ?_, ?_, ?_⟩
    · by_cases hj : j < us.length
      · rw [List.getElem?_append_left hj] at e
        obtain ⟨W, e1, e2⟩ := hW.2 j v e
        refine ⟨W, ?_, ((e2.keep kt5G).same sH).keep kI⟩
        rw [List.getElem?_append_left (by rw [← hW.1]; exact hj)]
        exact e1
      · rw [List.getElem?_append_right (by omega)] at e
        have hi0 : j - us.length = 0 := by
          rcases Nat.eq_zero_or_pos (j - us.length) with z | z
          · exact z
          · rw [List.getElem?_eq_none (by show 1 ≤ _; omega)] at e
            cases e
        rw [hi0] at e
        cases e
        refine ⟨_, ?_, W1⟩
        rw [List.getElem?_append_right (by rw [← hW.1]; omega), ← hW.1, hi0]
        rfl
    · intro W hW'
      rcases List.mem_append.mp hW' with h | h
      · exact hok W h
      · rw [List.mem_singleton.mp h]
        exact ⟨W1ok, stR⟩
    · rw [List.map_append, eti, List.take_add_one, htt]
      show ti.take i ++ [(tt.1, (rot nm at1.toNat tt.2).length)] = _
      rw [rl]
      rfl
    · obtain ⟨x', y', z', e, rr⟩ := BG.same sH
      exact ⟨x', y', z', by rw [upd_ne (Ne.symm nlb)]; exact e, rr⟩
    · intro a o na e
      have hal : a ≠ l := ne_of_none e hl
      rw [upd_ne hal]
      exact sH _ _ (U5G _ _ na (U5 _ _ na e))
  · rintro σ H5 ⟨us, Ws, y6, y7, y8, y9, y10, y11, rfl, hl5, hW, hok, eti, B5, U5⟩
    have eall : ti.take tvs.length = ti := List.take_of_length_le (by rw [tin.1]; exact Nat.le_refl _)
    rw [eall] at eti
    have lW : Ws.length = ti.length := by rw [← eti, List.length_map]
    have nmW : Ws.map Wk.name = ti.map Prod.fst := by rw [← eti, List.map_map]; rfl
    refine ⟨_, rfl, q l us Ws H5 ?_ hl5 hW ⟨by omega, fun W h => (hok W h).1, by rw [nmW]; exact tnd, fun W h st hst => ?_⟩ (by omega) (by omega) (B5.less (by omega)) (U1.trans (U2.trans (U3.trans (U4.trans U5))))⟩
    · cases z : H l with
      | none => rfl
      | some o =>
        have := U4 _ _ nlb (U3 _ _ nlb (U2 _ _ nlb (U1 _ _ nlb z)))
        rw [this] at hl
        cases hl
    · have hm := (hok W h).2 st hst
      rw [← eti] at hm
      obtain ⟨W', hW', e⟩ := List.mem_map.mp hm
      exact ⟨W', hW', by rw [← e], by rw [← e]⟩
end
end SH

set_option Elab.async false
set_option linter.all false
set_option maxRecDepth 100000
namespace SW
open PySem PySem.SeqAt PySem.Spec PyProof.Rows
open AutoSeq1 (wpAny_loadPart')
open MeetsSeq MeetsSeq2 MeetsSeq3 SeqRoads2
section
variable {M : Model} {prog : Program} {w : World} {A : Around} {E : Value → Shared → Prop} {s : Shared} {K : PySem.W.Frag} {x C f : Addr} {ox : Obj} {od : Option Obj} {b tb : Value}
/-- the != that every class has, bound -/
theorem bound_ne {args : List Value} {Q : Option Value → Shared → Prop} (KX : K.In s.heap) (J : PySem.W.InstAt s.heap x ox C od) (hN : PySem.W.findIn K (.ref C) "__ne__" = some (some (.builtin "object.__ne__")))
    (h : wpAny M A (call (.builtin "object.__ne__") (.ref x :: args)) (fun v => Q (some v)) E s) : wpAny M A (callSpecialIfBound? (.ref x) "__ne__" args) Q E s := by
  simp only [bindSpecialIfBound?, callSpecialIfBound?]
  refine wpAny_holding (wpAny_bind (wpAny_bind (wpAny_bind (J.type.here ((PySem.W.looks_findIn KX hN).here (wpAny_bind (wpAny_askSetting (wpAny_ite ?_))))))))
  have last : wpAny M A (call (.builtin "object.__ne__") ([.ref x] ++ args) >>= fun v => pure (some v)) Q E s := wpAny_bind (wpAny_mono h (fun _ _ z => wpAny_pure z) fun _ _ z => z)
  split
  · exact wpAny_bind (wpAny_of_eq (F.cmp_object.ne.bind _) (wpAny_pure (by exact last)))
  · exact wpAny_tryCatch (wpAny_bind (wpAny_of_eq (F.cmp_object.ne.bind _) (wpAny_pure (by exact last))))
theorem ne_entry {Q : Fin → Shared → Prop} (KX : K.In s.heap) (J : PySem.W.InstAt s.heap x ox C od) (hE : PySem.W.findIn K (.ref C) "__eq__" = some (some (.ref f))) (hf : PySem.W.isFn K (.ref f) = true) (hu : A.units < cLine)
    (hc : wpAny M A (call (.ref f) [.ref x, b]) (fun v s' => ∃ r, v = .bool r ∧ Q (.done (.ret (.bool (!r)))) s') E s) : wpAny M A (Builtin.«object.__ne__» ⟨[.ref x, b], []⟩) Q E s := by
  unfold Builtin.«object.__ne__»
  repeat (first
    | with_reducible refine wpAny_cRoomFor hu ?_
    | (refine wpAny_bind (m := callSpecialIfBound? (.ref x) (Str.ofString "__eq__") [b]) (PySem.W.ifBound_K KX J hE hf (wpAny_mono hc (fun r s' z => by
          obtain ⟨t, rfl, q⟩ := z
          repeat (first | exact q | exact wpAny_pure q | exact wpAny_truthy_bool q | (refine wpAny_bind (m := truthy (.bool _)) (wpAny_truthy_bool ?_)) | wp_step)) fun _ _ z => z)))
    | wp_step)
theorem rc_ne {Q : Value → Shared → Prop} (hu : A.units + 1 < cLine) (KX : K.In s.heap) (J : PySem.W.InstAt s.heap x ox C od) (hb : PySem.W.Looks (model prog w) s.heap (typeOf b) tb) (hn : PySem.W.notFirst K C tb = true)
    (hN : PySem.W.findIn K (.ref C) "__ne__" = some (some (.builtin "object.__ne__"))) (hE : PySem.W.findIn K (.ref C) "__eq__" = some (some (.ref f))) (hf : PySem.W.isFn K (.ref f) = true) (hm : PySem.W.mroIn K C (.type "object") = some true)
    (hc : wpAny (model prog w) A.in1 (call (.ref f) [.ref x, b]) (fun v s' => ∃ r, v = .bool r ∧ Q (.bool (!r)) s') E s) : wpAny (model prog w) A (richCompare .NotEq (.ref x) b) Q E s := by
  have one : wpAny (model prog w) A (tryCompare (.ref x) "__ne__" b) (fun r s' => ∃ v, r = some v ∧ Q v s') E s := by
    unfold tryCompare
    refine wpAny_bind (bound_ne KX J hN (wpAny_call (codeAny_call_builtin F.cmp_object.ne.plain F.cmpEntry_ne (PySem.W.check_slot F.cmpKind_ne F.cmpSplit_ne (J.type.andThen (PySem.W.looks_mroIn KX hm)) (F.cmpArgs_ne _ _)
      (ne_entry (A := A.in1) KX J hE hf hu (wpAny_mono hc (fun v s' z => ?_) fun _ _ z => z))))))
    obtain ⟨r, rfl, q⟩ := z
    exact ⟨r, rfl, wpAny_pure ⟨_, rfl, q⟩⟩
  unfold richCompare
  simp only [oneThing_ref, cmpInfo_NotEq]
  refine wpAny_holding (wpAny_bind (wpAny_cRoomFor (by omega) (wpAny_bind (J.type.here (wpAny_bind (hb.here ?_))))))
  split
  · rename_i q
    have e : PySem.W.subIn K tb (.ref C) = some false := by
      rcases Bool.or_eq_true_iff.mp hn with e | e
      · rw [beq_iff_eq.mp e] at q
        simp at q
      · exact beq_iff_eq.mp e
    refine wpAny_bind ((PySem.W.looks_subIn KX e).here ?_)
    simp only [Bool.false_eq_true, if_false]
    refine wpAny_bind (wpAny_mono one (fun r s' z => ?_) fun _ _ z => z)
    obtain ⟨v, rfl, k⟩ := z
    exact wpAny_pure k
  · refine wpAny_bind (wpAny_pure ?_)
    simp only [Bool.false_eq_true, if_false]
    refine wpAny_bind (wpAny_mono one (fun r s' z => ?_) fun _ _ z => z)
    obtain ⟨v, rfl, k⟩ := z
    exact wpAny_pure k
/-- the right one's own == is asked where the left one, of a built-in type, knows nothing of it -/
theorem rc_back {u : Value} {T : String} {Q : Value → Shared → Prop} (hu : A.units < cLine) (KX : K.In s.heap) (J : PySem.W.InstAt s.heap x ox C od) (hT : s.TypeIs u T) (hs : PySem.W.mroIn K C (.type T) = some false)
    (hE : PySem.W.findIn K (.ref C) "__eq__" = some (some (.ref f))) (hf : PySem.W.isFn K (.ref f) = true) (no : wpAny (model prog w) A (tryCompare u "__eq__" (.ref x)) (fun r s' => r = none ∧ s' = s) E s)
    (hc : wpAny (model prog w) A (call (.ref f) [.ref x, u]) (fun v s' => ∃ r, v = .bool r ∧ Q (.bool r) s') E s) : wpAny (model prog w) A (richCompare .Eq u (.ref x)) Q E s := by
  have two : wpAny (model prog w) A (tryCompare (.ref x) "__eq__" u) (fun r s' => ∃ v, r = some v ∧ Q v s') E s := by
    unfold tryCompare
    refine wpAny_bind (PySem.W.ifBound_K KX J hE hf (wpAny_mono hc (fun v s' z => ?_) fun _ _ z => z))
    obtain ⟨r, rfl, q⟩ := z
    exact wpAny_pure ⟨_, rfl, q⟩
  simp only [richCompare, cmpInfo_Eq, hT.oneThing_none]
  refine wpAny_holding (wpAny_bind (wpAny_cRoomFor hu ?_))
  refine wpAny_bind (wpAny_typeOf hT (wpAny_bind (J.type.here ?_)))
  split
  · refine wpAny_bind ((PySem.W.looks_mroIn KX hs).here ?_)
    simp only [Bool.not_false, Bool.false_eq_true, if_true, if_false]
    refine wpAny_bind (m := tryCompare u _ (.ref x)) (wpAny_mono no (fun r s1 z => ?_) fun _ _ z => z)
    obtain ⟨rfl, rfl⟩ := z
    refine wpAny_bind (m := tryCompare (.ref x) _ u) (wpAny_mono two (fun r s2 z => ?_) fun _ _ z => z)
    obtain ⟨v, rfl, k⟩ := z
    exact wpAny_pure k
  · rename_i q
    exact absurd (by simp) q
/-- y is the one item of a list: is x in it? -/
theorem in_one {l : Addr} {y v : Value} {its : Array Value} {n : Nat} {dd : Option Addr} {sl : Array (Option Value)} {Q : Value → Shared → Prop} (i0 : its[0]? = some y) (hl : s.heap.get? l = some { cls := .type "list", dict := dd, data := .seq its n, slots := sl })
    (he : wpAny (model prog w) A.in1 (eqBool y v) (fun r s' => (∃ (its' : Array Value) (n' : Nat) (dd' : Option Addr) (sl' : Array (Option Value)), its'[1]? = none ∧ s'.heap.get? l = some { cls := .type "list", dict := dd', data := .seq its' n', slots := sl' }) ∧ Q (.bool r) s') E s) : wpAny (model prog w) A (compareOp .In v (.ref l)) Q E s := by
  show wpAny _ A (do return .bool (← contains (.ref l) v)) Q E s
  refine wpAny_bind (wpAny_contains_slot ⟨_, hl, rfl⟩ F.slot_list_contains (wpAny_mono (Q := fun z s' => ∃ r, z = .bool r ∧ Q (.bool r) s') (GQ.call_here F.slot_list_contains ⟨_, hl, rfl⟩ F.entry_list_contains (F.args_list_contains_2 _ _) ?_) (fun z s' hz => ?_) fun _ _ z => z))
  · obtain ⟨hp, g, d, tk, os⟩ := s
    wp_walk using wpAny_loadPart' hl
    refine ⟨plainId_quiet plain_contains_loop _, codeAny_builtin entry_contains_loop ?_⟩
    rw [Around.under_plainId plain_contains_loop _]
    have e0 : its[((0 : Nat) : Int).toNat]? = some y := i0
    have e0' : its[(0 : Int).toNat]? = some y := i0
    wp_walk using wpAny_loadPart' hl
    first | rw [e0] | rw [e0'] | rw [i0]
    refine wpAny_bind (wpAny_mono he (fun r s2 z => ?_) fun _ _ z => z)
    obtain ⟨⟨its', n', dd', sl', i1', hl2⟩, q⟩ := z
    obtain ⟨hp2, g2, d2, tk2, os2⟩ := s2
    cases r with
    | true =>
      wp_walk
      exact ⟨true, rfl, q⟩
    | false =>
      wp_walk
      refine ⟨plainId_quiet plain_contains_loop _, codeAny_builtin entry_contains_loop ?_⟩
      rw [Around.under_plainId plain_contains_loop _]
      have e1 : its'[((0 : Int) + 1).toNat]? = none := i1'
      wp_walk using wpAny_loadPart' hl2
      first | rw [e1] | rw [i1']
      wp_walk
      exact ⟨false, rfl, q⟩
  · obtain ⟨r, rfl, q⟩ := hz
    exact wpAny_truthy_bool (wpAny_pure q)
/-- what knows nothing of an instance -/
theorem no_none (hx : s.heap.get? x = some ox) : wpAny (model prog w) A (tryCompare .none "__eq__" (.ref x)) (fun r s' => r = none ∧ s' = s) E s :=
  wpAny_tryCompare_declines (T := "NoneType") rfl F.slot_NoneType_eq_refl (GQ.call_here F.slot_NoneType_eq_refl rfl F.entry_NoneType_eq (F.args_NoneType_eq_2 _ _) (by
    obtain ⟨hp, g, d, tk, os⟩ := s
    wp_walk
    exact ⟨rfl, rfl, rfl⟩))
theorem no_int {i : Int} {t : Tok} {dx : Addr} (hx : s.heap.get? x = some (PySem.W.instObj C dx)) : wpAny (model prog w) A (tryCompare (.int i t) "__eq__" (.ref x)) (fun r s' => r = none ∧ s' = s) E s :=
  wpAny_tryCompare_declines (T := "int") rfl F.slot_int_eq_refl (GQ.call_here F.slot_int_eq_refl rfl F.entry_int_eq (F.args_int_eq_2 _ _) (by
    obtain ⟨hp, g, d, tk, os⟩ := s
    wp_walk using wpAny_loadPart' hx, wpAny_load hx
    exact ⟨rfl, rfl, rfl⟩))
theorem no_bool {i : Bool} {dx : Addr} (hx : s.heap.get? x = some (PySem.W.instObj C dx)) : wpAny (model prog w) A (tryCompare (.bool i) "__eq__" (.ref x)) (fun r s' => r = none ∧ s' = s) E s :=
  wpAny_tryCompare_declines (T := "bool") rfl F.slot_bool_eq_refl (GQ.call_here F.slot_bool_eq_refl rfl F.entry_int_eq (F.args_int_eq_2 _ _) (by
    obtain ⟨hp, g, d, tk, os⟩ := s
    wp_walk using wpAny_loadPart' hx, wpAny_load hx
    exact ⟨rfl, rfl, rfl⟩))
theorem no_str {i : Str} {t : Tok} {dx : Addr} (hx : s.heap.get? x = some (PySem.W.instObj C dx)) : wpAny (model prog w) A (tryCompare (.str i t) "__eq__" (.ref x)) (fun r s' => r = none ∧ s' = s) E s :=
  wpAny_tryCompare_declines (T := "str") rfl F.slot_str_eq_refl (GQ.call_here F.slot_str_eq_refl rfl F.entry_str_eq (F.args_str_eq_2 _ _) (by
    obtain ⟨hp, g, d, tk, os⟩ := s
    wp_walk using wpAny_loadPart' hx, wpAny_load hx
    exact ⟨rfl, rfl, rfl⟩))
theorem no_list {l : Addr} {its : Array Value} {n : Nat} {dd : Option Addr} {sl : Array (Option Value)} (hl : s.heap.get? l = some { cls := .type "list", dict := dd, data := .seq its n, slots := sl }) (KX : K.In s.heap) (J : PySem.W.InstAt s.heap x ox C od) (hm : PySem.W.mroIn K C (.type "list") = some false) :
    wpAny (model prog w) A (tryCompare (.ref l) "__eq__" (.ref x)) (fun r s' => r = none ∧ s' = s) E s :=
  wpAny_tryCompare_declines (T := "list") ⟨_, hl, rfl⟩ F.slot_list_eq_refl (GQ.call_here F.slot_list_eq_refl ⟨_, hl, rfl⟩ F.entry_list_eq (F.args_list_eq_2 _ _) (by
    have e : PySem.W.Looks (model prog w) s.heap (isInstance (.ref x) (.type "list")) false := J.type.andThen (PySem.W.looks_mroIn KX hm)
    obtain ⟨hp, g, d, tk, os⟩ := s
    wp_walk using wpAny_loadPart' hl, e.here
    exact ⟨rfl, rfl, rfl⟩))
theorem no_tup {l : Addr} {its : Array Value} {n : Nat} {dd : Option Addr} {sl : Array (Option Value)} (hl : s.heap.get? l = some { cls := .type "tuple", dict := dd, data := .seq its n, slots := sl }) (KX : K.In s.heap) (J : PySem.W.InstAt s.heap x ox C od) (hm : PySem.W.mroIn K C (.type "tuple") = some false) :
    wpAny (model prog w) A (tryCompare (.ref l) "__eq__" (.ref x)) (fun r s' => r = none ∧ s' = s) E s :=
  wpAny_tryCompare_declines (T := "tuple") ⟨_, hl, rfl⟩ F.slot_tuple_eq_refl (GQ.call_here F.slot_tuple_eq_refl ⟨_, hl, rfl⟩ F.entry_tuple_eq (F.args_tuple_eq_2 _ _) (by
    have e : PySem.W.Looks (model prog w) s.heap (isInstance (.ref x) (.type "tuple")) false := J.type.andThen (PySem.W.looks_mroIn KX hm)
    obtain ⟨hp, g, d, tk, os⟩ := s
    wp_walk using wpAny_loadPart' hl, e.here
    exact ⟨rfl, rfl, rfl⟩))
end
end SW

set_option Elab.async false
set_option linter.all false
set_option maxRecDepth 100000
namespace SH
open PySem PySem.Spec PyProof.Rows L2
/-- a class with its own ==, and nothing else of that kind -/
structure OwnQ (K : PySem.W.Frag) (C f : Addr) : Prop where
  eq : PySem.W.findIn K (.ref C) "__eq__" = some (some (.ref f))
  fn : PySem.W.isFn K (.ref f) = true
  ne : PySem.W.findIn K (.ref C) "__ne__" = some (some (.builtin "object.__ne__"))
  obj : PySem.W.mroIn K C (.type "object") = some true
  li : PySem.W.mroIn K C (.type "list") = some false
  tu : PySem.W.mroIn K C (.type "tuple") = some false
  it : PySem.W.mroIn K C (.type "int") = some false
  bo : PySem.W.mroIn K C (.type "bool") = some false
  st : PySem.W.mroIn K C (.type "str") = some false
  no : PySem.W.mroIn K C (.type "NoneType") = some false
/-- a promise that gives a truth -/
def Tru (sp : Sp) (a : Addr) (y : V) (H : Hp) (Q : Bool → Hp → Prop) : Prop := sp [.ref a, y] H (fun z H' => ∃ r, z = .bl r ∧ Q r H') E0
section
variable {X : Cx} {n : Nat} {C f : Addr} {fd : FuncData} {ps : List PySem.Str} {sp : Sp} {pins : List (Addr × Obj)} {σ : L2.St} {H : Hp} {s : Shared}
theorem own_run (F : FnOk X.prog X.w X.K X.mg X.base CX0 n f fd ps sp) (hb : Binds X.K fd ps []) {A : Around} (sb : Sub X n A) (I : Inv X pins σ H s) {a : Addr} {y : V} {v : Value} (ry : RelV y v) {Q : Bool → Hp → Prop} (q : Tru sp a y H Q) :
    wpAny (model X.prog X.w) A (call (.ref f) [.ref a, v]) (fun r s' => ∃ z H', r = .bool z ∧ Inv X pins σ H' s' ∧ Q z H') X.xe s := by
  have e0 : Env0 X.prog X.w X.K X.mg X.base A X.stack s H := by
    have e := I.env0
    exact ⟨by rw [sb.fr]; exact e.frames, e.mod, e.bs, e.bsz, e.funs, e.frf, e.hok, e.bare⟩
  have hl := F.len _ _ _ _ q
  have rv : Vals [V.ref a, y] [Value.ref a, v] := .cons rfl (.cons ry .nil)
  refine wpAny_call (codeAny_mono (F.run A X.stack s H ⟨[.ref a, v], []⟩ [.ref a, v] [.ref a, y] _ E0 sb.room e0 (by
    have := hb s [.ref a, v] I.kIn (by simpa using hl)
    simpa using this) rv q) fun r s' hq => ?_)
  cases r with
  | error e => exact hq.elim
  | ok fl =>
    cases fl with
    | ret w =>
      obtain ⟨z, H', I', rz, t, rfl, k⟩ := I.after hq
      cases rz
      exact ⟨t, H', rfl, I', k⟩
    | next => exact False.elim hq
    | brk => exact False.elim hq
    | cont => exact False.elim hq
def rEqO (K : PySem.W.Frag) (C : Addr) (sp : Sp) (neg : Bool) : R2 := fun x y H Q => ∃ (a dx : Addr) (fs : List (PySem.Str × V)) (t : Value), x = .ref a ∧ H a = some (.ins C dx fs) ∧ TyX K H y t ∧ PySem.W.notFirst K C t = true ∧ Tru sp a y H fun r H' => Q (.bl (if neg then !r else r)) H'
theorem rc_own (T : OwnQ X.K C f) (F : FnOk X.prog X.w X.K X.mg X.base CX0 n f fd ps sp) (hb : Binds X.K fd ps []) {A : Around} (sb : Sub X n A) (I : Inv X pins σ H s) {a dx : Addr} {fs : List (PySem.Str × V)} {y : V} {v t : Value} (ha : H a = some (.ins C dx fs)) (ry : RelV y v) (ty : TyX X.K H y t) (nf : PySem.W.notFirst X.K C t = true) {Q : Bool → Hp → Prop} (q : Tru sp a y H Q) :
    wpAny (model X.prog X.w) A (richCompare .Eq (.ref a) v) (fun r s' => ∃ z H', r = .bool z ∧ Inv X pins σ H' s' ∧ Q z H') X.xe s := by
  obtain ⟨mA, om, _⟩ := ins_get I.hok ha
  obtain ⟨od, J, _⟩ := om.look
  obtain ⟨P, Z, p, _⟩ := kit_of I ry ty
  obtain ⟨m, hF⟩ := I.fr
  refine PySem.W.cmp_K (op := .Eq) sb.room.units0 hF I.ok.mod.kin J (Z.ty _ _ I.kIn p) nf T.eq T.fn (wpAny_mono (own_run F hb sb I ry q) (fun r s' z => ?_) fun _ _ z => z)
  obtain ⟨t, H', rfl, k⟩ := z
  exact ⟨t, H', rfl, k⟩
theorem op_eqO (T : OwnQ X.K C f) (F : FnOk X.prog X.w X.K X.mg X.base CX0 n f fd ps sp) (hb : Binds X.K fd ps []) (hr : Room n X.A) : OpR X (compareOp .Eq) (rEqO X.K C sp false) := by
  intro pins s σ H x y v u Q I rx ry h
  obtain ⟨a, dx, fs, t, rfl, ha, ty, nf, q⟩ := h
  cases rx
  refine (show wpAny (model X.prog X.w) X.A (richCompare .Eq (.ref a) u) _ _ s from wpAny_mono (rc_own T F hb ⟨hr, rfl⟩ I ha ry ty nf q) (fun r s' z => ?_) fun _ _ z => z)
  obtain ⟨t, H', rfl, I', k⟩ := z
  exact ⟨.bl t, H', I', rfl, k⟩
theorem op_neO (T : OwnQ X.K C f) (F : FnOk X.prog X.w X.K X.mg X.base CX0 n f fd ps sp) (hb : Binds X.K fd ps []) (hr : Room (n + 1) X.A) : OpR X (compareOp .NotEq) (rEqO X.K C sp true) := by
  intro pins s σ H x y v u Q I rx ry h
  obtain ⟨a, dx, fs, t, rfl, ha, ty, nf, q⟩ := h
  cases rx
  obtain ⟨mA, om, _⟩ := ins_get I.hok ha
  obtain ⟨od, J, _⟩ := om.look
  obtain ⟨P, Z, p, _⟩ := kit_of I ry ty
  have hu : X.A.units + 1 < cLine := hr.in1.units0
  refine (show wpAny (model X.prog X.w) X.A (richCompare .NotEq (.ref a) u) _ _ s from SW.rc_ne hu I.kIn J (Z.ty _ _ I.kIn p) nf T.ne T.eq T.fn T.obj (wpAny_mono (own_run F hb ⟨hr.in1, rfl⟩ I ry q) (fun r s' z => ?_) fun _ _ z => z))
  obtain ⟨t, H', rfl, I', k⟩ := z
  exact ⟨t, rfl, .bl (!t), H', I', rfl, k⟩
/-- b in [a], both of the class, not the same -/
def rInO (K : PySem.W.Frag) (C : Addr) (sp : Sp) : R2 := fun x y H Q => ∃ (a b l dx : Addr) (fs : List (PySem.Str × V)) (t : Value), x = .ref b ∧ y = .ref l ∧ b ≠ a ∧ H l = some (.lst [.ref a]) ∧ H a = some (.ins C dx fs) ∧ TyX K H x t ∧ PySem.W.notFirst K C t = true ∧ Tru sp a x H fun r H' => H' l = some (.lst [.ref a]) ∧ Q (.bl r) H'
theorem op_inO (T : OwnQ X.K C f) (F : FnOk X.prog X.w X.K X.mg X.base CX0 n f fd ps sp) (hb : Binds X.K fd ps []) (hr : Room (n + 1) X.A) : OpR X (compareOp .In) (rInO X.K C sp) := by
  intro pins s σ H x y v u Q I rx ry h
  obtain ⟨a, b, l, dx, fs, t, rfl, rfl, ne, hl, ha, ty, nf, q⟩ := h
  cases rx
  cases ry
  obtain ⟨_, its, n0, rv, hl1⟩ := (show ObjOk X.prog X.w H s.heap l (.lst [.ref a]) from I.hok l _ hl)
  obtain ⟨u1, e1, r1⟩ := vals1 rv
  subst e1
  cases r1
  refine SW.in_one (y := .ref a) rfl hl1 (GQ.eqBool_refG (Ne.symm ne) (wpAny_mono (rc_own T F hb ⟨hr.in1, rfl⟩ I ha (show RelV (.ref b) (.ref b) from rfl) ty nf q) (fun r s' z => ?_) fun _ _ z => z))
  obtain ⟨t, H', rfl, I', hl', k⟩ := z
  obtain ⟨_, its', n1, rv', hl2⟩ := (show ObjOk X.prog X.w H' s'.heap l (.lst [.ref a]) from I'.hok l _ hl')
  obtain ⟨u2, e2, _⟩ := vals1 rv'
  subst e2
  exact ⟨t, rfl, ⟨_, _, _, _, rfl, hl2⟩, .bl t, H', I', rfl, k⟩
/-- a thing of a built-in type -/
inductive Alien (H : Hp) : V → Prop where
  | non : Alien H .non
  | bl (b : Bool) : Alien H (.bl b)
  | int (i : Int) : Alien H (.int i)
  | str (z : PySem.Str) : Alien H (.str z)
  | lst {p : Addr} {xs : List V} (e : H p = some (.lst xs)) : Alien H (.ref p)
  | tup {p : Addr} {xs : List V} (e : H p = some (.tup xs)) : Alien H (.ref p)
theorem Alien.ty {K : PySem.W.Frag} {H : Hp} {C : Addr} {z : V} (h : Alien H z) : ∃ t, TyX K H z t ∧ PySem.W.notFirst K C t = true := by
  have no : ∀ T l, fastBuiltinMro T = some l → l.contains (Value.ref C) = false → PySem.W.notFirst K C (.type T) = true := fun T l e c => by
    have : PySem.W.subIn K (.type T) (.ref C) = some false := by
      show (fastBuiltinMro T).map (·.contains (.ref C)) = some false
      rw [e, Option.map_some, c]
    unfold PySem.W.notFirst
    rw [this]
    simp
  cases h with
  | non => exact ⟨_, .base .non, no "NoneType" [.type "NoneType", .type "object"] (by decide +kernel) (by simp)⟩
  | bl b => exact ⟨_, .base (.bl b), no "bool" [.type "bool", .type "int", .type "object"] (by decide +kernel) (by simp)⟩
  | int i => exact ⟨_, .base (.int i), no "int" [.type "int", .type "object"] (by decide +kernel) (by simp)⟩
  | str z => exact ⟨_, .base (.str z), no "str" [.type "str", .type "object"] (by decide +kernel) (by simp)⟩
  | lst e => exact ⟨_, .base (.lst e), no "list" [.type "list", .type "object"] (by decide +kernel) (by simp)⟩
  | tup e => exact ⟨_, .base (.tup e), no "tuple" [.type "tuple", .type "object"] (by decide +kernel) (by simp)⟩
theorem eq_alien (T : OwnQ X.K C f) (F : FnOk X.prog X.w X.K X.mg X.base CX0 n f fd ps sp) (hb : Binds X.K fd ps []) {A : Around} (sb : Sub X n A) (I : Inv X pins σ H s) {a dx : Addr} {fs : List (PySem.Str × V)} {z : V} {v : Value} (ha : H a = some (.ins C dx fs)) (rz : RelV z v) (al : Alien H z) {Q : Bool → Hp → Prop} (q : Tru sp a z H Q) :
    wpAny (model X.prog X.w) A (eqBool v (.ref a)) (fun r s' => ∃ H', Inv X pins σ H' s' ∧ Q r H') X.xe s := by
  obtain ⟨mA, om, _⟩ := ins_get I.hok ha
  obtain ⟨od, J, _⟩ := om.look
  have run := own_run F hb sb I rz q
  have hu := sb.room.units0
  have back : ∀ {T' : String}, s.TypeIs v T' → PySem.W.mroIn X.K C (.type T') = some false → wpAny (model X.prog X.w) A (tryCompare v "__eq__" (.ref a)) (fun r s' => r = none ∧ s' = s) X.xe s →
      wpAny (model X.prog X.w) A (richCompare .Eq v (.ref a)) (fun w s' => ∃ r H', w = .bool r ∧ Inv X pins σ H' s' ∧ Q r H') X.xe s := fun hT hm no =>
    SW.rc_back hu I.kIn J hT hm T.eq T.fn no (wpAny_mono run (fun w s' k => by
      obtain ⟨r, H', rfl, I', k⟩ := k
      exact ⟨r, rfl, r, H', rfl, I', k⟩) fun _ _ k => k)
  have flat : (v == Value.ref a) = false → (∀ bits tok, v ≠ .float bits tok) → wpAny (model X.prog X.w) A (richCompare .Eq v (.ref a)) (fun w s' => ∃ r H', w = .bool r ∧ Inv X pins σ H' s' ∧ Q r H') X.xe s →
      wpAny (model X.prog X.w) A (eqBool v (.ref a)) (fun r s' => ∃ H', Inv X pins σ H' s' ∧ Q r H') X.xe s := fun ne _ h => by
    unfold eqBool
    refine wpAny_holding (wpAny_ite_split (fun k => absurd k (by rw [ne]; simp)) fun _ => ?_)
    have go : wpAny (model X.prog X.w) A (do let r ← richCompare .Eq v (.ref a); truthOfDropped r) (fun r s' => ∃ H', Inv X pins σ H' s' ∧ Q r H') X.xe s := by
      refine wpAny_bind (wpAny_mono h (fun w s' k => ?_) fun _ _ k => k)
      obtain ⟨r, H', rfl, I', k⟩ := k
      exact wpAny_truthy_bool ⟨H', I', k⟩
    cases v <;> exact go
  cases al with
  | non =>
    cases rz
    exact flat rfl (fun _ _ k => nomatch k) (back rfl T.no (SW.no_none J.at_))
  | bl b =>
    cases rz
    exact flat rfl (fun _ _ k => nomatch k) (back rfl T.bo (SW.no_bool J.at_))
  | int i =>
    obtain ⟨t, rfl⟩ := rz
    exact flat rfl (fun _ _ k => nomatch k) (back rfl T.it (SW.no_int J.at_))
  | str i =>
    obtain ⟨t, rfl⟩ := rz
    exact flat rfl (fun _ _ k => nomatch k) (back rfl T.st (SW.no_str J.at_))
  | @lst p xs e =>
    cases rz
    obtain ⟨_, its, n0, _, hl⟩ := (show ObjOk X.prog X.w H s.heap p (.lst xs) from I.hok p _ e)
    have ne : p ≠ a := fun k => by
      rw [k, ha] at e
      cases e
    exact flat (by simpa using ne) (fun _ _ k => nomatch k) (back ⟨_, hl, rfl⟩ T.li (SW.no_list hl I.kIn J T.li))
  | @tup p xs e =>
    cases rz
    obtain ⟨_, its, _, o, h1, h2, n0, h3⟩ := (show ObjOk X.prog X.w H s.heap p (.tup xs) from I.hok p _ e)
    have ne : p ≠ a := fun k => by
      rw [k, ha] at e
      cases e
    obtain ⟨oc, od', dt, sl⟩ := o
    simp only at h2 h3
    subst h2 h3
    exact flat (by simpa using ne) (fun _ _ k => nomatch k) (back ⟨_, h1, rfl⟩ T.tu (SW.no_tup h1 I.kIn J T.tu))
/-- a in [z], z of a built-in type -/
def rInB (C : Addr) (sp : Sp) : R2 := fun x y H Q => ∃ (a l dx : Addr) (fs : List (PySem.Str × V)) (z : V), x = .ref a ∧ y = .ref l ∧ H l = some (.lst [z]) ∧ H a = some (.ins C dx fs) ∧ Alien H z ∧ Tru sp a z H fun r H' => H' l = some (.lst [z]) ∧ Q (.bl r) H'
theorem op_inB (T : OwnQ X.K C f) (F : FnOk X.prog X.w X.K X.mg X.base CX0 n f fd ps sp) (hb : Binds X.K fd ps []) (hr : Room (n + 1) X.A) : OpR X (compareOp .In) (rInB C sp) := by
  intro pins s σ H x y v u Q I rx ry h
  obtain ⟨a, l, dx, fs, z, rfl, rfl, hl, ha, al, q⟩ := h
  cases rx
  cases ry
  obtain ⟨_, its, n0, rv, hl1⟩ := (show ObjOk X.prog X.w H s.heap l (.lst [z]) from I.hok l _ hl)
  obtain ⟨u1, e1, r1⟩ := vals1 rv
  subst e1
  refine SW.in_one (y := u1) rfl hl1 (wpAny_mono (eq_alien T F hb ⟨hr.in1, rfl⟩ I ha r1 al q) (fun r s' k => ?_) fun _ _ k => k)
  obtain ⟨H', I', hl', k⟩ := k
  obtain ⟨_, its', n1, rv', hl2⟩ := (show ObjOk X.prog X.w H' s'.heap l (.lst [z]) from I'.hok l _ hl')
  obtain ⟨u2, e2, _⟩ := vals1 rv'
  subst e2
  exact ⟨⟨_, _, _, _, rfl, hl2⟩, .bl r, H', I', rfl, k⟩
end
end SH

set_option Elab.async false
set_option linter.all false
set_option maxRecDepth 100000
namespace SH
open PySem L2
/-! ### works as plain data -/
def Ex.dat : Ex → PyData
  | .num i => .tuple [.str "number", .int i]
  | .nam s => .tuple [.str "name", .str s]
  | .op g l r => .tuple [.str g.txt, l.dat, r.dat]
def optDat : Option Ex → PyData
  | none => .none
  | some e => e.dat
def Rs.dat : Rs → List PyData
  | .nil => []
  | .put x e t => .tuple [.str "put", .str x, e.dat] :: t.dat
  | .go w x f es t => .tuple [.str (goW w), .str x, .str f, .tuple (es.map Ex.dat)] :: t.dat
  | .wait x y oe t => .tuple [.str "wait", .str x, .str y, optDat oe] :: t.dat
  | .iff e a b t => .tuple [.str "if", e.dat, .tuple a.dat, .tuple b.dat] :: t.dat
  | .give w e t => .tuple [.str (giveW w), e.dat] :: t.dat
def Wk.dat (W : Wk) : PyData := .tuple [.str "work", .str W.name, .tuple (W.names.map PyData.str), .int W.room, .tuple W.rows.dat]
section
variable {K : PySem.W.Frag} {H : Hp}
theorem dp2 {a b : V} {c d : PyData} (h1 : Dp K H a c) (h2 : Dp K H b d) : DpAll K H [a, b] [c, d] := .cons h1 (.cons h2 .nil)
theorem dp3 {a b e : V} {c d f : PyData} (h1 : Dp K H a c) (h2 : Dp K H b d) (h3 : Dp K H e f) : DpAll K H [a, b, e] [c, d, f] := .cons h1 (dp2 h2 h3)
theorem dp4 {a b e g : V} {c d f i : PyData} (h1 : Dp K H a c) (h2 : Dp K H b d) (h3 : Dp K H e f) (h4 : Dp K H g i) : DpAll K H [a, b, e, g] [c, d, f, i] := .cons h1 (dp3 h2 h3 h4)
theorem Ex.dp : ∀ {e : Ex} {v : V}, TrIn H e v → Dp K H v e.dat
  | .num _, _, ⟨a, e, h⟩ => e ▸ .tup (SqT.of h) (dp2 (.str _) (.int _))
  | .nam _, _, ⟨a, e, h⟩ => e ▸ .tup (SqT.of h) (dp2 (.str _) (.str _))
  | .op _ _ _, _, ⟨a, x, y, e, h, l, r⟩ => e ▸ .tup (SqT.of h) (dp3 (.str _) (Ex.dp l) (Ex.dp r))
theorem exs_dp : ∀ {es : List Ex} {vs : List V}, TrsIn H es vs → DpAll K H vs (es.map Ex.dat)
  | [], _, e => by
    cases (show _ = [] from e)
    exact .nil
  | e :: es, _, ⟨v, r, k, h, t⟩ => k ▸ .cons (Ex.dp h) (exs_dp t)
theorem opt_dp : ∀ {oe : Option Ex} {v : V}, OptIn H oe v → Dp K H v (optDat oe)
  | none, _, e => by
    cases (show _ = V.non from e)
    exact .non
  | some e, _, h => Ex.dp h
theorem Rs.dp : ∀ {r : Rs} {vs : List V}, RsIn H r vs → DpAll K H vs r.dat
  | .nil, _, e => by
    cases (show _ = [] from e)
    exact .nil
  | .put _ _ t, _, ⟨a, v, r, k, h, e, q⟩ => k ▸ .cons (.tup (SqT.of h) (dp3 (.str _) (.str _) (Ex.dp e))) (Rs.dp q)
  | .go _ _ _ _ t, _, ⟨a, p, ws, r, k, h, hp, e, q⟩ => k ▸ .cons (.tup (SqT.of h) (dp4 (.str _) (.str _) (.str _) (.tup (SqT.of hp) (exs_dp e)))) (Rs.dp q)
  | .wait _ _ _ t, _, ⟨a, v, r, k, h, e, q⟩ => k ▸ .cons (.tup (SqT.of h) (dp4 (.str _) (.str _) (.str _) (opt_dp e))) (Rs.dp q)
  | .iff _ _ _ t, _, ⟨a, v, p, xs, p', ys, r, k, h, e, hp, A, hp', B, q⟩ => k ▸ .cons (.tup (SqT.of h) (dp4 (.str _) (Ex.dp e) (.tup (SqT.of hp) (Rs.dp A)) (.tup (SqT.of hp') (Rs.dp B)))) (Rs.dp q)
  | .give _ _ t, _, ⟨a, v, r, k, h, e, q⟩ => k ▸ .cons (.tup (SqT.of h) (dp2 (.str _) (Ex.dp e))) (Rs.dp q)
theorem strs_dp : ∀ (l : List Str), DpAll K H (l.map V.str) (l.map PyData.str)
  | [] => .nil
  | _ :: l => .cons (.str _) (strs_dp l)
theorem Wk.dp {W : Wk} {v : V} : WkIn H W v → Dp K H v W.dat
  | ⟨a, pn, pr, xs, e, h, hn, hp, q⟩ => e ▸ .tup (SqT.of h) (.cons (.str _) (dp4 (.str _) (.tup (SqT.of hn) (strs_dp _)) (.int _) (.tup (SqT.of hp) (Rs.dp q))))
theorem wks_dp : ∀ {Ws : List Wk} {vs : List V}, WksIn H Ws vs → DpAll K H vs (Ws.map Wk.dat)
  | [], [], _ => .nil
  | W :: Ws, v :: vs, h => by
    obtain ⟨W', e, k⟩ := h.2 0 v rfl
    cases e
    refine .cons (Wk.dp k) (wks_dp ⟨by have := h.1; simpa using this, fun i u hu => ?_⟩)
    obtain ⟨W', e, k⟩ := h.2 (i + 1) u (by simpa using hu)
    exact ⟨W', by simpa using e, k⟩
  | [], _ :: _, h => by have := h.1; simp at this
  | _ :: _, [], h => by have := h.1; simp at this
end
/-! ### it can lie anywhere -/
theorem fit_name {s : Str} (h : NmOk s) : PySem.PyData.canLay0 (.str s) = true := by
  show PySem.PyData.strOk s = true
  unfold PySem.PyData.strOk
  rw [Array.all_eq_true]
  intro i hi
  have q := h.1.2.2 s.cps[i] (by show _ ∈ s.cps.toList; exact Array.mem_toList_iff.mpr (Array.getElem_mem hi))
  exact decide_eq_true (by omega)
theorem lay_list (xs : List PyData) : PySem.PyData.canLayAll0 xs = xs.all PySem.PyData.canLay0 := by
  induction xs with
  | nil => rfl
  | cons x xs ih =>
    show (PySem.PyData.canLay0 x && PySem.PyData.canLayAll0 xs) = _
    rw [ih, List.all_cons]
theorem deep_list {n : Nat} : ∀ {xs : List PyData}, (∀ x ∈ xs, x.depth ≤ n) → PySem.PyData.depthAll xs ≤ n
  | [], _ => Nat.zero_le _
  | x :: xs, h => by
    show max x.depth (PySem.PyData.depthAll xs) ≤ n
    have h1 := h x (List.mem_cons_self ..)
    have h2 := deep_list fun y hy => h y (List.mem_cons_of_mem _ hy)
    omega
/-- can lie, and no deeper than n -/
def Fit (n : Nat) (d : PyData) : Prop := PySem.PyData.canLay0 d = true ∧ d.depth ≤ n
theorem Fit.up {n m : Nat} {d : PyData} (h : Fit n d) (k : n ≤ m) : Fit m d := ⟨h.1, Nat.le_trans h.2 k⟩
theorem fit_tup {n : Nat} {ds : List PyData} (h : ∀ d ∈ ds, Fit n d) : Fit (n + 1) (.tuple ds) := by
  refine ⟨?_, ?_⟩
  · show PySem.PyData.canLayAll0 ds = true
    rw [lay_list, List.all_eq_true]
    exact fun d hd => (h d hd).1
  · show PySem.PyData.depthAll ds + 1 ≤ n + 1
    have := deep_list (n := n) fun d hd => (h d hd).2
    omega
theorem fit_lst {n : Nat} {ds : List PyData} (h : ∀ d ∈ ds, Fit n d) : Fit (n + 1) (.list ds) := fit_tup h
theorem fit_str {n : Nat} {s : Str} (h : NmOk s) : Fit n (.str s) := ⟨fit_name h, Nat.zero_le _⟩
theorem fit_word {n : Nat} {s : Str} (h : PySem.PyData.strOk s = true) : Fit n (.str s) := ⟨h, Nat.zero_le _⟩
theorem fit_int {n : Nat} {i : Int} : Fit n (.int i) := ⟨rfl, Nat.zero_le _⟩
theorem all2 {p : PyData → Prop} {a b : PyData} (h1 : p a) (h2 : p b) : ∀ d ∈ [a, b], p d := fun d hd => by
  rcases List.mem_cons.mp hd with rfl | hd
  · exact h1
  · rw [List.mem_singleton.mp hd]
    exact h2
theorem all3 {p : PyData → Prop} {a b c : PyData} (h1 : p a) (h2 : p b) (h3 : p c) : ∀ d ∈ [a, b, c], p d := fun d hd => by
  rcases List.mem_cons.mp hd with rfl | hd
  · exact h1
  · exact all2 h2 h3 d hd
theorem all4 {p : PyData → Prop} {a b c e : PyData} (h1 : p a) (h2 : p b) (h3 : p c) (h4 : p e) : ∀ d ∈ [a, b, c, e], p d := fun d hd => by
  rcases List.mem_cons.mp hd with rfl | hd
  · exact h1
  · exact all3 h2 h3 h4 d hd
theorem Ex.fit : ∀ {n : Nat} {e : Ex}, Ex.fine n e → Fit n e.dat
  | 0, _, h => h.elim
  | n + 1, .num i, _ => fit_tup (all2 (fit_word (by decide +kernel)) fit_int)
  | n + 1, .nam s, h => fit_tup (all2 (fit_word (by decide +kernel)) (fit_str h))
  | n + 1, .op g l r, h => fit_tup (all3 (fit_word (by cases g <;> decide +kernel)) (Ex.fit h.1) (Ex.fit h.2))
theorem Rs.fit : ∀ (r : Rs) {n : Nat}, Rs.ok n r → ∀ d ∈ r.dat, Fit (8 + 2 * n) d
  | .nil, _, _ => fun d hd => by cases hd
  | .put x e t, n, h => fun d hd => by
    rcases List.mem_cons.mp hd with rfl | hd
    · exact (fit_tup (n := 6) (all3 (fit_word (by decide +kernel)) (fit_str h.1) (Ex.fit h.2.1))).up (by omega)
    · exact Rs.fit t h.2.2 d hd
  | .go w x f es t, n, h => fun d hd => by
    rcases List.mem_cons.mp hd with rfl | hd
    · exact (fit_tup (n := 7) (all4 (fit_word (by cases w <;> decide +kernel)) (fit_str h.1) (fit_str h.2.1) (fit_tup (n := 6) fun d hd => by
        obtain ⟨e, he, rfl⟩ := List.mem_map.mp hd
        exact Ex.fit (h.2.2.2.1 e he)))).up (by omega)
    · exact Rs.fit t h.2.2.2.2 d hd
  | .wait x y oe t, n, h => fun d hd => by
    rcases List.mem_cons.mp hd with rfl | hd
    · refine (fit_tup (n := 6) (all4 (fit_word (by decide +kernel)) (fit_str h.1) (fit_str h.2.1) ?_)).up (by omega)
      cases oe with
      | none => exact ⟨rfl, Nat.zero_le _⟩
      | some e => exact Ex.fit (h.2.2.1 e rfl)
    · exact Rs.fit t h.2.2.2 d hd
  | .iff e a b t, n, h => fun d hd => by
    rcases List.mem_cons.mp hd with rfl | hd
    · have hn := h.1
      exact (fit_tup (n := 9 + 2 * (n - 1)) (all4 (fit_word (by decide +kernel)) ((Ex.fit h.2.1).up (by omega)) (fit_tup (n := 8 + 2 * (n - 1)) (Rs.fit a h.2.2.1) |>.up (by omega)) (fit_tup (n := 8 + 2 * (n - 1)) (Rs.fit b h.2.2.2.1) |>.up (by omega)))).up (by omega)
    · exact Rs.fit t h.2.2.2.2 d hd
  | .give w e t, n, h => fun d hd => by
    rcases List.mem_cons.mp hd with rfl | hd
    · exact (fit_tup (n := 6) (all2 (fit_word (by cases w <;> decide +kernel)) (Ex.fit h.1))).up (by omega)
    · exact Rs.fit t h.2 d hd
theorem Wk.fit {W : Wk} (h : W.ok) : Fit 16 W.dat := fit_tup (n := 15) fun d hd => by
  rcases List.mem_cons.mp hd with rfl | hd
  · exact fit_word (by decide +kernel)
  · refine all4 (fit_str h.name) ((fit_tup (n := 1) fun d hd => ?_).up (by omega)) fit_int ((fit_tup (n := 14) (Rs.fit W.rows h.rows)).up (by omega)) d hd
    obtain ⟨s, hs, rfl⟩ := List.mem_map.mp hd
    exact fit_str (h.names s hs)
theorem shaped_of {n : Nat} {d : PyData} (h : Fit n d) (k : n ≤ 64) : SeqAt.shaped d = true := by
  unfold SeqAt.shaped
  rw [h.1, decide_eq_true (Nat.le_trans h.2 k)]
  rfl
/-- are these works equal to those? -/
def sameW (Ws Vs : List Wk) : Bool := PyData.eqv (.tuple (Ws.map Wk.dat)) (.tuple (Vs.map Wk.dat))
theorem sameW_list (Ws Vs : List Wk) : PyData.eqv (.list (Ws.map Wk.dat)) (.list (Vs.map Wk.dat)) = sameW Ws Vs := rfl
theorem wks_shaped {Ws : List Wk} (h : ∀ W ∈ Ws, W.ok) : SeqAt.shaped (.tuple (Ws.map Wk.dat)) = true ∧ SeqAt.shaped (.list (Ws.map Wk.dat)) = true := by
  have : ∀ d ∈ Ws.map Wk.dat, Fit 16 d := fun d hd => by
    obtain ⟨W, hW, rfl⟩ := List.mem_map.mp hd
    exact Wk.fit (h W hW)
  exact ⟨shaped_of (fit_tup this) (by decide), shaped_of (fit_lst this) (by decide)⟩
end SH

set_option Elab.async false
set_option linter.all false
set_option maxRecDepth 100000
/-! repr of plain data; defs that ask for it, which are called where no such text is under way. -/
namespace SH
open PySem PySem.Spec PyProof.Rows L2
/-- a def's promise, where no guard stands around the call -/
structure FnG (P : Program) (w : World) (K : PySem.W.Frag) (mg : PySem.Str → Option Value) (base : Heap) (k : Nat) (f : Addr) (fd : FuncData) (ps : List PySem.Str) (sp : Sp) : Prop where
  len : ∀ vs H Q E, sp vs H Q E → vs.length = ps.length
  run : ∀ (A : Around) (outer : List Env) (s : Shared) (H : Hp) (args : Args) (us : List Value) (vs : List V) (Q : VK) (E : XK), A.guards = some [] → Room k A → Env0 P w K mg base A outer s H →
    BindsTo s fd args (ps.zip us) → Vals vs us → sp vs H Q E → codeAny (model P w) A (.call (.ref f) args) (CR CX0 outer P w H s Q E) s
section
variable {P : Program} {w : World} {K : PySem.W.Frag} {mg : PySem.Str → Option Value} {base : Heap}
theorem FnG.of {k : Nat} {f : Addr} {fd : FuncData} {ps : List PySem.Str} {sp : Sp} (F : FnOk P w K mg base CX0 k f fd ps sp) : FnG P w K mg base k f fd ps sp :=
  ⟨F.len, fun A outer s H args us vs Q E _ => F.run A outer s H args us vs Q E⟩
theorem FnG.mono {j k : Nat} {f : Addr} {fd : FuncData} {ps : List PySem.Str} {sp : Sp} (F : FnG P w K mg base j f fd ps sp) (h : j ≤ k) : FnG P w K mg base k f fd ps sp :=
  ⟨F.len, fun A outer s H args us vs Q E g r => F.run A outer s H args us vs Q E g (r.mono h)⟩
/-- a def of the text, by its body -/
theorem okG {x qual : PySem.Str} {st : Stmt} {f : Addr} {fd : FuncData} {N ps : List PySem.Str} {k : Nat} {sp : Sp} (F : Fun K x qual st f fd) (S : FnScope N ps (defScope st)) (len : ∀ vs H Q E, sp vs H Q E → vs.length = ps.length)
    (body : ∀ (cdv : Value) (A : Around) (outer : List Env) (s : Shared) (H : Hp) (vs : List V) (Q : VK) (E : XK), (A.deeper (envOfC qual (defScope st) s.heap.objs.size f cdv)).guards = some [] → Room k (A.deeper (envOfC qual (defScope st) s.heap.objs.size f cdv)) → sp vs H Q E →
      ∃ t, PSs (cxOf CX0 P w K mg base N qual (defScope st) f cdv A outer s H E).nox (defBody st) t ∧ t { nx := fun _ H' => Q .non H', rt := Q } (start N vs) H) : FnG P w K mg base (k + 1) f fd ps sp := by
  obtain ⟨oc, od, kV, doc, pm, an, cdv, ct, osl, rfl, look, code⟩ := F.ex
  refine ⟨len, ?_⟩
  intro A outer s H args us vs Q E gd room env bind rel want
  have many := len _ _ _ _ want
  have still : ∀ b o, base.get? b = some o → s.heap.get? b = some o := fun b o e => (env.bs b o e).1
  have inK := env.mod.kin.keeps still
  refine codeAny_call_function room.depth (inK _ _ look) rfl S.co S.gen rfl (PySem.W.codeRec_of inK code) (bind _ _ _ _ ?_)
  refine wpAny_newFunctionEnv_cells S.kind ?_ fun env' he s1 made => ?_
  · rintro ⟨n, v⟩ hy
    cases S.par n (List.of_mem_zip hy).1 with
    | inl q => exact .inl q
    | inr q => exact .inr ⟨q, PySem.W.cellsFrom_some _ _ _ (.inl q)⟩
  subst he
  refine ⟨(env.mod.nolimit.keeps still).keeps made.toInCall.keep, codeAny_func ?_⟩
  obtain ⟨t, ht, hq⟩ := body cdv A outer s H vs Q E gd (room.deeper _) want
  have begun : Inv (cxOf CX0 P w K mg base N qual (defScope st) f cdv A outer s H E) [] (start N vs) H s1 := inv_start S room.hd env many rel made
  refine wpAny_mono (ht.nox.run [] s1 _ H _ begun hq) (fun fl s' out => ?_) fun _ _ out => out
  cases fl with
  | ret u => exact let ⟨v, _, H', J, rv, q⟩ := out; ⟨v, H', J.os, J.bare, J.base, J.hok, rv, q⟩
  | next => exact let ⟨_, H', J, q⟩ := out; ⟨V.non, H', J.os, J.bare, J.base, J.hok, rfl, q⟩
  | brk => exact (let ⟨_, _, _, q⟩ := out; False.elim q)
  | cont => exact (let ⟨_, _, _, q⟩ := out; False.elim q)
end
section
variable {X : Cx}
/-- f(..) of such a def -/
theorem pe_callG {k : Nat} {f : Addr} {fd : FuncData} {ps : List PySem.Str} {sp : Sp} {x : PySem.Str} {p pos : Pos} {e : Expr} {es : List Expr} {t : TA} (F : FnG X.prog X.w X.K X.mg X.base k f fd ps sp) (gd : X.A.guards = some []) (hr : Room k X.A) (hg : Gl X x) (hm : X.mg x = some (.ref f)) (hk : PySem.W.keepIn X.K (.ref f) = true) (hb : Binds X.K fd ps [])
    (ha : PA X (e :: es) t) (hdb : (x == ("__debug__" : PySem.Str)) = false := by decide) (he : starEach (e :: es) X.env = (false, eval e X.env) :: starEach es X.env := by rfl) (hpl : (backTo pos (starEach es X.env)).any (·.1) = false := by rfl) :
    PE X (.Call (.Name x p) (e :: es) [] pos) (tCall sp [] E0 t) := by
  constructor
  intro pins s σ H Q I h
  refine wpAny_Call_Name_kw (ld_glob I hg hm ?_ hdb)
  refine PySem.W.callWith_K (h₀ := X.base) I.ok.mod.kin hk (thn (ha.run pos pins s σ H _ I h) ?_) he hpl
  rintro us s1 ⟨vs, H1, I1, r, q⟩
  rw [List.append_nil] at q
  refine ⟨I1.kIn, wpAny_call (codeAny_mono (F.run X.A X.stack s1 H1 ⟨us, []⟩ us vs Q E0 gd hr I1.env0 ?_ r q) fun r' s' hq => ?_)⟩
  · have := hb s1 us I1.kIn (by rw [List.append_nil, ← r.length]; exact F.len _ _ _ _ q)
    rwa [List.append_nil] at this
  · cases r' with
    | error e => exact False.elim hq
    | ok fl =>
      cases fl with
      | ret u => exact I1.after hq
      | next => exact False.elim hq
      | brk => exact False.elim hq
      | cont => exact False.elim hq
/-- repr(x), x a list or tuple of plain data -/
def rRepr (K : PySem.W.Frag) : List V → Hp → VK → Prop := fun xs H Q => ∃ (a : Addr) (d : PyData), xs = [.ref a] ∧ Dp K H (.ref a) d ∧ d.showable = true ∧ d.hasDict = false ∧ d.depth ≤ 60 ∧ d.shown.length ≤ sizeLine ∧ Q (.str d.shown) H
theorem call_reprD (gd : X.A.guards = some []) (hu : X.A.units + 64 < cLine) : CallR X (.builtin "repr") (rRepr X.K) := by
  intro pins s σ H xs us Q I r h
  obtain ⟨a, d, rfl, dp, sh, nd, de, sz, q⟩ := h
  obtain ⟨u, rfl, ru⟩ := vals1 r
  cases ru
  obtain ⟨as, rd⟩ := Dp.reads I d _ _ dp rfl
  refine repr_of_reads' rd sh (fun z => by rw [nd] at z; cases z) gd (by omega) (fun _ _ e => e) (fun h' t tk kp => ?_) sz
  exact ⟨.str d.shown, H, I.kept (t' := tk) kp, ⟨_, rfl⟩, q⟩
theorem call_reprK (K : PySem.W.Frag) (gd : X.A.guards = some []) (hu : X.A.units + 64 < cLine) (hK : X.K = K := by rfl) : CallR X (.builtin "repr") (rRepr K) := hK ▸ call_reprD gd hu
end
/-! ### the beginning -/
/-- the heap in which the script alone is known, and what comes of the law's end -/
theorem law_begin {P : Program} {w : World} {K : PySem.W.Frag} {mg mb : PySem.Str → Option Value} {a : Addr} {s₁ : Shared} {vs : List Value} {ns : List Int} (inK : K.In s₁.heap) (gl : s₁.heap.Ns mainGlobals mg) (bl : s₁.heap.Ns builtinsNs mb) (boot : ∀ x : PySem.Str, x ≠ "__name__" → mb x = bootBuiltins x) (nl : s₁.heap.NoLimit) (gens : s₁.gens = #[])
    (at_ : s₁.heap.get? a = some { cls := .type "list", data := .seq vs.toArray }) (hin : IntsAre vs ns) (few : ns.length ≤ sizeLine) :
    ∃ (H : Hp) (base : Heap), SqL K H a (ns.map V.int) ∧ Env0 P w K mg base callerA [] s₁ H ∧ K.In base ∧ base.Ns mainGlobals mg ∧ ∀ (r : Result) (s' : Shared), CR CX0 [] P w H s₁ (fun v _ => v = .bl true) E0 r s' → r = .ok (.ret (.bool true)) ∧ OldK s₁.heap s'.heap ∧ s'.os = s₁.os ∧ AllBare s'.gens := by
  have vals := vals_ints hin
  have many := hin.length
  -- any heap that knows no more than the script, as it lies there
  have any : ∀ H : Hp, (∀ b u, H b = some u → b = a ∧ K.lookup a = none ∧ ∃ o xs, u = .frz o xs) → SqL K H a (ns.map V.int) → HOk P w H s₁.heap →
      ∃ (H : Hp) (base : Heap), SqL K H a (ns.map V.int) ∧ Env0 P w K mg base callerA [] s₁ H ∧ K.In base ∧ base.Ns mainGlobals mg ∧ ∀ (r : Result) (s' : Shared), CR CX0 [] P w H s₁ (fun v _ => v = .bl true) E0 r s' → r = .ok (.ret (.bool true)) ∧ OldK s₁.heap s'.heap ∧ s'.os = s₁.os ∧ AllBare s'.gens := by
    intro H only sq ok
    have clear : ∀ {b : Addr} {o : Obj}, s₁.heap.get? b = some o → (b = a → K.lookup a = none → False) → (hidT s₁.heap H).get? b = some o := fun {b o} e no => by
      refine hidT_get e ?_
      cases q : H b with
      | none => rfl
      | some u => exact (no (only b u q).1 (only b u q).2.1).elim
    have ns' : ∀ {b : Addr} {m : PySem.Str → Option Value}, s₁.heap.Ns b m → (hidT s₁.heap H).Ns b m := by
      rintro b m ⟨o, es, ep, e, d, r⟩
      refine ⟨o, es, ep, clear e fun z _ => ?_, d, r⟩
      subst z
      rw [at_] at e
      cases e
      cases (show Data.seq vs.toArray _ = Data.dict es ep from d)
    have kb : K.In (hidT s₁.heap H) := fun b o e => clear (inK b o e) fun z n => by
      subst z
      rw [n] at e
      cases e
    refine ⟨H, hidT s₁.heap H, sq, ⟨rfl, ⟨kb, ns' gl, ⟨mb, ns' bl, boot⟩, ?_⟩, fun b o e => of_hidT e, Nat.le_of_eq (hidT_size _ _), trivial, ?_, ok, .of_eq gens⟩, kb, ns' gl, ?_⟩
    · obtain ⟨mc, h1, h2⟩ := nl
      exact ⟨mc, ns' h1, h2⟩
    · intro b hb
      cases (show b ∈ ([] : List Addr) from hb)
    · intro r s' h
      cases r with
      | error e => exact False.elim h
      | ok fl =>
        cases fl with
        | next => exact False.elim h
        | brk => exact False.elim h
        | cont => exact False.elim h
        | ret u =>
          obtain ⟨v, H', os, bare, un, ok', rv, q⟩ := h
          cases (show v = .bl true from q)
          cases (show u = Value.bool true from rv)
          refine ⟨rfl, OldK.of_keep fun b o e => ?_, os, bare⟩
          cases q : H b with
          | none => exact un.keep b o e q (fun z => by cases (show b ∈ ([] : List Addr) from z)) (by simp)
          | some u =>
            obtain ⟨_, _, ob, xs, rfl⟩ := only b u q
            have e1 := (ok b _ q).1
            rw [e] at e1
            cases e1
            exact (ok' b _ (un.frzs b _ _ q)).1
  cases look : K.lookup a with
  | some o =>
    have e := inK a o look
    rw [at_] at e
    cases e
    refine any (fun _ => none) (fun b u z => by cases z) ?_ (fun b u z => by cases (show (none : Option HO) = some u from z))
    exact .inr ⟨_, vs.toArray, _, look, rfl, rfl, rfl, by rw [List.size_toArray, many]; exact few, by simpa using vals⟩
  | none =>
    refine any (fun b => if b = a then some (.frz { cls := .type "list", data := .seq vs.toArray } (.lst (ns.map V.int))) else none) ?_ (.inl (.inr ⟨{ cls := .type "list", data := .seq vs.toArray }, if_pos rfl⟩)) ?_
    · intro b u z
      by_cases hb : b = a
      · rw [if_pos hb] at z
        cases z
        exact ⟨hb, look, _, _, rfl⟩
      · rw [if_neg hb] at z
        cases z
    · intro b u z
      by_cases hb : b = a
      · have z' := (if_pos hb).symm.trans z
        cases z'
        subst hb
        exact ⟨at_, by rw [List.length_map]; exact few, vs, _, vals, at_⟩
      · cases (if_neg hb).symm.trans z
/-- the law's walk, from such a promise of it -/
theorem walk_G {l : PySem.W.OpenLaw} {k : Nat} {q : Program} {loose : List PySem.Str} {XP : (PySem.Str → Option Value) → Heap → Prop} {YP : World → Heap → Prop} {d : DefRec} {K : Params → PySem.W.Frag} {sp : PySem.W.Frag → Sp} (most : l.most = some 63) (nodf : d.params.defaults = []) (room : Room k callerA)
    (hY : ∀ (w : World) (h : Heap), YP w h → (K w.params).In h)
    (F : ∀ (w : World) (mg : PySem.Str → Option Value) (fa : Addr) (h : Heap), (K w.params).In h → h.Ns mainGlobals mg → mg d.name = some (.ref fa) →
      ∃ fd : FuncData, (∀ (s : Shared) (u : Value), BindsTo s fd ⟨[u], []⟩ [("_law_script", u)]) ∧ ∀ base : Heap, (K w.params).In base → base.Ns mainGlobals mg → FnG l.prog w (K w.params) mg base k fa fd ["_law_script"] (sp (K w.params)))
    (hsp : ∀ (K : PySem.W.Frag) (H : Hp) (a : Addr) (ns : List Int), ns.length ≤ 63 → SqL K H a (ns.map V.int) → sp K [.ref a] H (fun v _ => v = .bl true) E0) :
    PySem.W.WalkO q loose XP YP l.row.toRowW d [] (fun f vs => PySem.call f vs) := by
  refine Att.attach_call most nodf fun w s₀ s₁ mg mb fa o pm cd doc a vs ns G Y ho hd hcd hmg hobj hints hlen hg => ?_
  obtain ⟨fd, hb, hF⟩ := F w mg fa _ (hY w _ Y) G.T.g hmg
  obtain ⟨H, base, sq, env, kb, nb, out⟩ := law_begin (P := l.prog) (w := w) (hY w _ Y) G.T.g G.T.b G.T.builtins G.T.nolimit hg hobj hints (Nat.le_trans hlen (by decide))
  exact codeAny_mono ((hF base kb nb).run callerA [] s₁ H ⟨[.ref a], []⟩ [.ref a] [.ref a] _ _ rfl room env (hb s₁ (.ref a)) (.cons rfl .nil) (hsp _ H a ns hlen sq)) out
end SH

set_option Elab.async false
set_option linter.all false
set_option maxRecDepth 100000
/-! plain data of tuples: how deep, how long their text. -/
namespace SH
open PySem L2
mutual
def onlyT : PyData → Bool
  | .none => true
  | .bool _ => true
  | .int _ => true
  | .str _ => true
  | .list _ => false
  | .tuple ds => onlyTs ds
  | .dict _ => false
def onlyTs : List PyData → Bool
  | [] => true
  | d :: ds => onlyT d && onlyTs ds
end
theorem onlyTs_mem : ∀ {ds : List PyData}, (∀ d ∈ ds, onlyT d = true) → onlyTs ds = true
  | [], _ => rfl
  | d :: ds, h => by
    show (onlyT d && onlyTs ds) = true
    rw [h d (List.mem_cons_self ..), onlyTs_mem fun e he => h e (List.mem_cons_of_mem _ he)]
    rfl
theorem mem_onlyTs : ∀ {ds : List PyData}, onlyTs ds = true → ∀ d ∈ ds, onlyT d = true
  | [], _, d, hd => by cases hd
  | e :: ds, h, d, hd => by
    have h' : (onlyT e && onlyTs ds) = true := h
    rw [Bool.and_eq_true] at h'
    rcases List.mem_cons.mp hd with rfl | hd
    · exact h'.1
    · exact mem_onlyTs h'.2 d hd
/-! such data stay where the tuples stay -/
def KpT (K : PySem.W.Frag) (H H' : Hp) : Prop := ∀ a xs, SqT K H a xs → SqT K H' a xs
mutual
theorem Dp.keep {K : PySem.W.Frag} {H H' : Hp} (h : KpT K H H') : ∀ {d : PyData} {v : V}, onlyT d = true → Dp K H v d → Dp K H' v d
  | .none, _, _, .non => .non
  | .bool _, _, _, .bl b => .bl b
  | .int _, _, _, .int i => .int i
  | .str _, _, _, .str x => .str x
  | .list _, _, o, _ => by cases o
  | .tuple ds, _, o, .tup s q => .tup (h _ _ s) (DpAll.keep h o q)
  | .dict _, _, o, _ => by cases o
theorem DpAll.keep {K : PySem.W.Frag} {H H' : Hp} (h : KpT K H H') : ∀ {ds : List PyData} {vs : List V}, onlyTs ds = true → DpAll K H vs ds → DpAll K H' vs ds
  | [], _, _, .nil => .nil
  | d :: ds, _, o, .cons a b => by
    have o' : (onlyT d && onlyTs ds) = true := o
    rw [Bool.and_eq_true] at o'
    exact .cons (Dp.keep h o'.1 a) (DpAll.keep h o'.2 b)
end
theorem Same.kpT {K : PySem.W.Frag} {H H' : Hp} (s : Same H H') : KpT K H H' := fun a xs h => by
  rcases h with (h | ⟨o, h⟩) | h
  · exact .inl (.inl (s _ _ h))
  · exact .inl (.inr ⟨o, s _ _ h⟩)
  · exact .inr h
theorem KpT.trans {K : PySem.W.Frag} {H H1 H2 : Hp} (a : KpT K H H1) (b : KpT K H1 H2) : KpT K H H2 := fun x xs h => b x xs (a x xs h)
theorem KpT.lst {K : PySem.W.Frag} {H : Hp} {l : Addr} {xs zs : List V} (h : H l = some (.lst xs)) : KpT K H (upd H l (.lst zs)) := fun a ys q => by
  rcases q with (q | ⟨o, q⟩) | q
  · exact .inl (.inl (by rw [upd_ne (fun z => by rw [z, h] at q; cases q)]; exact q))
  · exact .inl (.inr ⟨o, by rw [upd_ne (fun z => by rw [z, h] at q; cases q)]; exact q⟩)
  · exact .inr q
theorem DpAll.app {K : PySem.W.Frag} {H : Hp} : ∀ {as bs : List V} {ds es : List PyData}, DpAll K H as ds → DpAll K H bs es → DpAll K H (as ++ bs) (ds ++ es)
  | _, _, _, _, .nil, q => q
  | _, _, _, _, .cons a b, q => .cons a (DpAll.app b q)
theorem DpAll.len {K : PySem.W.Frag} {H : Hp} : ∀ {as : List V} {ds : List PyData}, DpAll K H as ds → as.length = ds.length
  | _, _, .nil => rfl
  | _, _, .cons _ b => by rw [List.length_cons, List.length_cons, DpAll.len b]
theorem DpAll.rev {K : PySem.W.Frag} {H : Hp} : ∀ {as : List V} {ds : List PyData}, DpAll K H as ds → DpAll K H as.reverse ds.reverse
  | _, _, .nil => .nil
  | _, _, .cons a b => by
    rw [List.reverse_cons, List.reverse_cons]
    exact DpAll.app (DpAll.rev b) (.cons a .nil)
/-! ### how long their text is -/
theorem piled_sum : ∀ ts : List Str, piled ts = (ts.map fun t => t.length + 2).sum
  | [] => rfl
  | t :: ts => by rw [piled_cons, piled_sum ts, List.map_cons, List.sum_cons]
theorem tuple_len (ts : List Str) : (tupleText ts).length ≤ 3 + (ts.map fun t => t.length + 2).sum := by
  unfold tupleText
  rw [strLen_append, strLen_append]
  have e1 : (((if ts.length == 1 then ",)" else ")" : String) : Str)).length ≤ 2 := by split <;> decide
  have e2 : (("(" : String) : Str).length = 1 := rfl
  cases ts with
  | nil =>
    have : (Str.join ", " ([] : List Str)).length = 0 := rfl
    omega
  | cons x r =>
    have := join_length_add (x :: r) (by simp)
    rw [piled_sum] at this
    omega
theorem textFrom_le : ∀ (ts : List Str) (k : Nat) (acc : Str), (textFrom k acc ts).length ≤ acc.length + (ts.map fun t => t.length + 2).sum
  | [], _, acc => Nat.le_refl _
  | t :: r, k, acc => by
    have h := textFrom_le r (k + 1) (acc ++ (if k > 0 then ", " else "" : String) ++ t)
    have e : (acc ++ (if k > 0 then ", " else "" : String) ++ t).length ≤ acc.length + 2 + t.length := by
      rw [strLen_append, strLen_append]
      have : (((if k > 0 then ", " else "" : String) : Str)).length ≤ 2 := by split <;> decide
      omega
    show (textFrom (k + 1) (acc ++ (if k > 0 then ", " else "" : String) ++ t) r).length ≤ _
    rw [List.map_cons, List.sum_cons]
    omega
theorem list_len (ts : List Str) : (listText ts).length ≤ 2 + (ts.map fun t => t.length + 2).sum := by
  unfold listText
  rw [strLen_append]
  have := textFrom_le ts 0 "["
  have e1 : (("[" : String) : Str).length = 1 := rfl
  have e2 : (("]" : String) : Str).length = 1 := rfl
  omega
/-- plain data of tuples, no deeper than n, with a text of at most m signs -/
structure Nice (n m : Nat) (d : PyData) : Prop where
  lay : PySem.PyData.canLay0 d = true
  dep : d.depth ≤ n
  ot : onlyT d = true
  sh : d.showable = true
  nd : d.hasDict = false
  sz : d.shown.length ≤ m
theorem Nice.up {n m n' m' : Nat} {d : PyData} (h : Nice n m d) (a : n ≤ n') (b : m ≤ m') : Nice n' m' d := ⟨h.lay, Nat.le_trans h.dep a, h.ot, h.sh, h.nd, Nat.le_trans h.sz b⟩
theorem showAll_mem : ∀ {ds : List PyData}, (∀ d ∈ ds, PyData.showable d = true) → PyData.showableAll ds = true
  | [], _ => rfl
  | d :: ds, h => by
    show (PyData.showable d && PyData.showableAll ds) = true
    rw [h d (List.mem_cons_self ..), showAll_mem fun e he => h e (List.mem_cons_of_mem _ he)]
    rfl
theorem noDict_mem : ∀ {ds : List PyData}, (∀ d ∈ ds, PyData.hasDict d = false) → PyData.hasDictAll ds = false
  | [], _ => rfl
  | d :: ds, h => by
    show (PyData.hasDict d || PyData.hasDictAll ds) = false
    rw [h d (List.mem_cons_self ..), noDict_mem fun e he => h e (List.mem_cons_of_mem _ he)]
    rfl
theorem shownAll_map : ∀ ds : List PyData, PyData.shownAll ds = ds.map PyData.shown
  | [] => rfl
  | d :: ds => by
    show PyData.shown d :: PyData.shownAll ds = _
    rw [shownAll_map ds]
    rfl
theorem lay_all (xs : List PyData) : PySem.PyData.canLayAll0 xs = xs.all PySem.PyData.canLay0 := by
  induction xs with
  | nil => rfl
  | cons x xs ih =>
    show (PySem.PyData.canLay0 x && PySem.PyData.canLayAll0 xs) = _
    rw [ih, List.all_cons]
theorem deep_all {n : Nat} : ∀ {xs : List PyData}, (∀ x ∈ xs, x.depth ≤ n) → PySem.PyData.depthAll xs ≤ n
  | [], _ => Nat.zero_le _
  | x :: xs, h => by
    show max x.depth (PySem.PyData.depthAll xs) ≤ n
    have h1 := h x (List.mem_cons_self ..)
    have h2 := deep_all fun y hy => h y (List.mem_cons_of_mem _ hy)
    omega
/-- the parts one by one: no deeper than n, their texts together -/
inductive Nices (n : Nat) : Nat → List PyData → Prop
  | nil : Nices n 0 []
  | cons {m k : Nat} {d : PyData} {ds : List PyData} : Nice n m d → Nices n k ds → Nices n (m + 2 + k) (d :: ds)
theorem Nices.mem {n k : Nat} {ds : List PyData} (h : Nices n k ds) : ∀ d ∈ ds, ∃ m, Nice n m d := by
  induction h with
  | nil => intro d hd; cases hd
  | cons a _ ih =>
    intro e he
    rcases List.mem_cons.mp he with rfl | he
    · exact ⟨_, a⟩
    · exact ih e he
theorem Nices.sum {n k : Nat} {ds : List PyData} (h : Nices n k ds) : ((PyData.shownAll ds).map fun t => t.length + 2).sum ≤ k := by
  induction h with
  | nil => exact Nat.le_refl _
  | @cons m k d ds a _ ih =>
    show ((PyData.shown d :: PyData.shownAll ds).map fun t => t.length + 2).sum ≤ _
    rw [List.map_cons, List.sum_cons]
    have := a.sz
    omega
theorem Nices.app {n k l : Nat} {ds es : List PyData} (a : Nices n k ds) (b : Nices n l es) : Nices n (k + l) (ds ++ es) := by
  induction a with
  | nil => rw [Nat.zero_add]; exact b
  | @cons m k d ds h _ ih =>
    have := Nices.cons h ih
    rw [show m + 2 + k + l = m + 2 + (k + l) by omega]
    exact this
theorem Nices.all {n m : Nat} : ∀ {ds : List PyData}, (∀ d ∈ ds, Nice n m d) → Nices n (ds.length * (m + 2)) ds
  | [], _ => by rw [List.length_nil, Nat.zero_mul]; exact .nil
  | d :: ds, h => by
    have := Nices.cons (h d (List.mem_cons_self ..)) (Nices.all fun e he => h e (List.mem_cons_of_mem _ he))
    rw [List.length_cons, Nat.succ_mul, Nat.add_comm]
    exact this
theorem nice_tup {n k : Nat} {ds : List PyData} (h : Nices n k ds) : Nice (n + 1) (3 + k) (.tuple ds) := by
  have me := h.mem
  refine ⟨?_, ?_, ?_, ?_, ?_, ?_⟩
  · show PySem.PyData.canLayAll0 ds = true
    rw [lay_all, List.all_eq_true]
    exact fun d hd => (let ⟨_, z⟩ := me d hd; z.lay)
  · show PySem.PyData.depthAll ds + 1 ≤ n + 1
    have := deep_all (n := n) fun d hd => (let ⟨_, z⟩ := me d hd; z.dep)
    omega
  · exact onlyTs_mem fun d hd => (let ⟨_, z⟩ := me d hd; z.ot)
  · exact showAll_mem fun d hd => (let ⟨_, z⟩ := me d hd; z.sh)
  · exact noDict_mem fun d hd => (let ⟨_, z⟩ := me d hd; z.nd)
  · have := tuple_len (PyData.shownAll ds)
    have := h.sum
    show (tupleText (PyData.shownAll ds)).length ≤ _
    omega
/-- a list of such data -/
structure NiceL (ds : List PyData) : Prop where
  lay : PySem.PyData.canLay0 (.list ds) = true
  dep : (PyData.list ds).depth ≤ 40
  ot : onlyTs ds = true
  sh : (PyData.list ds).showable = true
  nd : (PyData.list ds).hasDict = false
  sz : (PyData.list ds).shown.length ≤ sizeLine
theorem niceL {n k : Nat} {ds : List PyData} (h : Nices n k ds) (hn : n < 40) (hk : k + 2 ≤ sizeLine) : NiceL ds := by
  have me := h.mem
  refine ⟨?_, ?_, ?_, ?_, ?_, ?_⟩
  · show PySem.PyData.canLayAll0 ds = true
    rw [lay_all, List.all_eq_true]
    exact fun d hd => (let ⟨_, z⟩ := me d hd; z.lay)
  · show PySem.PyData.depthAll ds + 1 ≤ 40
    have := deep_all (n := n) fun d hd => (let ⟨_, z⟩ := me d hd; z.dep)
    omega
  · exact onlyTs_mem fun d hd => (let ⟨_, z⟩ := me d hd; z.ot)
  · exact showAll_mem fun d hd => (let ⟨_, z⟩ := me d hd; z.sh)
  · exact noDict_mem fun d hd => (let ⟨_, z⟩ := me d hd; z.nd)
  · have := list_len (PyData.shownAll ds)
    have := h.sum
    show (listText (PyData.shownAll ds)).length ≤ _
    omega
theorem NiceL.shaped {ds : List PyData} (h : NiceL ds) : SeqAt.shaped (.list ds) = true := by
  unfold SeqAt.shaped
  rw [h.lay, decide_eq_true (Nat.le_trans h.dep (by decide))]
  rfl
theorem NiceL.refl {ds : List PyData} (h : NiceL ds) : PyData.eqv (.list ds) (.list ds) = true := SeqAt.eqv_refl _ h.lay
theorem nice_int {n : Nat} {i : Int} (h : i.natAbs < 2 ^ 100) : Nice n 101 (.int i) := by
  have lg : i.natAbs.log2 < 1920 := by
    by_cases z : i.natAbs = 0
    · rw [z]; decide
    · have := (Nat.log2_lt z).mpr h
      omega
  refine ⟨rfl, Nat.zero_le _, rfl, decide_eq_true lg, rfl, ?_⟩
  show (Str.ofString (toString i)).length ≤ 101
  have e := int_text_length_le (a := i) (k := 100) (by decide) (by
    by_cases z : i.natAbs = 0
    · rw [z]; decide
    · exact (Nat.log2_lt z).mpr h)
  rw [ofString_length]; exact e
theorem nice_lit {n m : Nat} {s : Str} (h : PySem.PyData.strOk s = true) (k : (reprText s).length ≤ m) : Nice n m (.str s) := ⟨h, Nat.zero_le _, rfl, rfl, rfl, k⟩
end SH

set_option Elab.async false
set_option linter.all false
set_option maxRecDepth 100000
namespace SH
open PySem L2
mutual
/-- plain data, none of it known to the object -/
inductive DpU (H : Hp) : V → PyData → Prop
  | non : DpU H .non .none
  | bl (b : Bool) : DpU H (.bl b) (.bool b)
  | int (i : Int) : DpU H (.int i) (.int i)
  | str (x : Str) : DpU H (.str x) (.str x)
  | lst {a : Addr} {xs : List V} {ds : List PyData} : H a = some (.lst xs) → DpsU H xs ds → DpU H (.ref a) (.list ds)
  | tup {a : Addr} {xs : List V} {ds : List PyData} : H a = some (.tup xs) → DpsU H xs ds → DpU H (.ref a) (.tuple ds)
inductive DpsU (H : Hp) : List V → List PyData → Prop
  | nil : DpsU H [] []
  | cons {v : V} {vs : List V} {d : PyData} {ds : List PyData} : DpU H v d → DpsU H vs ds → DpsU H (v :: vs) (d :: ds)
end
theorem DpsU.len {H : Hp} : ∀ {vs : List V} {ds : List PyData}, DpsU H vs ds → vs.length = ds.length
  | [], _, h => by cases h; rfl
  | _ :: _, _, h => by
    cases h with
    | cons _ t => rw [List.length_cons, List.length_cons, DpsU.len t]
theorem DpsU.get {H : Hp} : ∀ {vs : List V} {ds : List PyData} {i : Nat} {v : V}, DpsU H vs ds → vs[i]? = some v → ∃ d, ds[i]? = some d ∧ DpU H v d
  | [], _, _, _, h, e => by cases h; cases e
  | _ :: _, _, 0, _, h, e => by
    cases h with
    | cons x _ => cases e; exact ⟨_, rfl, x⟩
  | _ :: _, _, i + 1, _, h, e => by
    cases h with
    | cons _ t => exact DpsU.get (i := i) t e
theorem DpsU.at {H : Hp} : ∀ {vs : List V} {ds : List PyData} {i : Nat} {d : PyData}, DpsU H vs ds → ds[i]? = some d → ∃ v, vs[i]? = some v ∧ DpU H v d
  | [], _, _, _, h, e => by cases h; cases e
  | _ :: _, _, 0, _, h, e => by
    cases h with
    | cons x _ => cases e; exact ⟨_, rfl, x⟩
  | _ :: _, _, i + 1, _, h, e => by
    cases h with
    | cons _ t => exact DpsU.at (i := i) t e
mutual
theorem DpU.same {H H' : Hp} (s : Same H H') : ∀ {v : V} {d : PyData}, DpU H v d → DpU H' v d
  | _, _, .non => .non
  | _, _, .bl b => .bl b
  | _, _, .int i => .int i
  | _, _, .str x => .str x
  | _, _, .lst h t => .lst (s _ _ h) (DpsU.same s t)
  | _, _, .tup h t => .tup (s _ _ h) (DpsU.same s t)
theorem DpsU.same {H H' : Hp} (s : Same H H') : ∀ {vs : List V} {ds : List PyData}, DpsU H vs ds → DpsU H' vs ds
  | _, _, .nil => .nil
  | _, _, .cons a b => .cons (DpU.same s a) (DpsU.same s b)
end
theorem DpsU.app {H : Hp} : ∀ {xs ys : List V} {ds es : List PyData}, DpsU H xs ds → DpsU H ys es → DpsU H (xs ++ ys) (ds ++ es)
  | [], _, _, _, .nil, h => h
  | _ :: _, _, _, _, .cons a b, h => .cons a (DpsU.app b h)
theorem DpsU.take {H : Hp} : ∀ {xs : List V} {ds : List PyData} (n : Nat), DpsU H xs ds → DpsU H (xs.take n) (ds.take n)
  | _, _, 0, _ => .nil
  | _, _, _ + 1, .nil => .nil
  | _, _, n + 1, .cons a b => .cons a (DpsU.take n b)
theorem DpsU.drop {H : Hp} : ∀ {xs : List V} {ds : List PyData} (n : Nat), DpsU H xs ds → DpsU H (xs.drop n) (ds.drop n)
  | _, _, 0, h => h
  | _, _, _ + 1, .nil => .nil
  | _, _, n + 1, .cons _ b => DpsU.drop n b
theorem DpsU.rev {H : Hp} : ∀ {xs : List V} {ds : List PyData}, DpsU H xs ds → DpsU H xs.reverse ds.reverse
  | _, _, .nil => .nil
  | _, _, .cons a b => by rw [List.reverse_cons, List.reverse_cons]; exact (DpsU.rev b).app (.cons a .nil)
mutual
theorem DpU.dp {K : PySem.W.Frag} {H : Hp} : ∀ {v : V} {d : PyData}, DpU H v d → Dp K H v d
  | _, _, .non => .non
  | _, _, .bl b => .bl b
  | _, _, .int i => .int i
  | _, _, .str x => .str x
  | _, _, .lst h t => .lst (SqL.of h) (DpsU.dp t)
  | _, _, .tup h t => .tup (SqT.of h) (DpsU.dp t)
theorem DpsU.dp {K : PySem.W.Frag} {H : Hp} : ∀ {vs : List V} {ds : List PyData}, DpsU H vs ds → DpAll K H vs ds
  | _, _, .nil => .nil
  | _, _, .cons a b => .cons (DpU.dp a) (DpsU.dp b)
end
/-! ### sizes -/
mutual
def wt : PyData → Nat
  | .none => 4
  | .bool _ => 5
  | .int _ => 101
  | .str s => 10 * s.length + 2
  | .list ds => 3 + wts ds
  | .tuple ds => 3 + wts ds
  | .dict _ => 0
def wts : List PyData → Nat
  | [] => 0
  | d :: ds => wt d + 2 + wts ds
end
mutual
def asc (b : Nat) : PyData → Bool
  | .none => true
  | .bool _ => true
  | .int i => decide (i.natAbs ≤ b)
  | .str s => s.cps.all (· < 128)
  | .list ds => ascs b ds
  | .tuple ds => ascs b ds
  | .dict _ => false
def ascs (b : Nat) : List PyData → Bool
  | [] => true
  | d :: ds => asc b d && ascs b ds
end
theorem ascs_iff {b : Nat} : ∀ {ds : List PyData}, ascs b ds = true ↔ ∀ d ∈ ds, asc b d = true
  | [] => ⟨fun _ d h => absurd h List.not_mem_nil, fun _ => rfl⟩
  | d :: ds => by
    show (asc b d && ascs b ds) = true ↔ _
    rw [Bool.and_eq_true, ascs_iff, List.forall_mem_cons]
mutual
theorem asc_lay {b : Nat} : ∀ {d : PyData}, asc b d = true → PySem.PyData.canLay0 d = true
  | .none, _ => rfl
  | .bool _, _ => rfl
  | .int _, _ => rfl
  | .str s, h => by
    have h' : s.cps.all (· < 128) = true := h
    show s.cps.all (· < 0x110000) = true
    rw [Array.all_eq_true] at h' ⊢
    intro i hi
    have := of_decide_eq_true (h' i hi)
    exact decide_eq_true (by omega)
  | .list ds, h => by show PySem.PyData.canLayAll0 ds = true; exact ascs_lay (b := b) h
  | .tuple ds, h => by show PySem.PyData.canLayAll0 ds = true; exact ascs_lay (b := b) h
theorem ascs_lay {b : Nat} : ∀ {ds : List PyData}, ascs b ds = true → PySem.PyData.canLayAll0 ds = true
  | [], _ => rfl
  | d :: ds, h => by
    have h' : asc b d = true ∧ ascs b ds = true := Bool.and_eq_true_iff.mp h
    show (PySem.PyData.canLay0 d && PySem.PyData.canLayAll0 ds) = true
    rw [asc_lay h'.1, ascs_lay h'.2]
    rfl
end
mutual
theorem asc_sh {b : Nat} (hb : b < 2 ^ 100) : ∀ {d : PyData}, asc b d = true → d.showable = true
  | .none, _ => rfl
  | .bool _, _ => rfl
  | .int i, h => (nice_int (n := 0) (i := i) (Nat.lt_of_le_of_lt (of_decide_eq_true h) hb)).sh
  | .str _, _ => rfl
  | .list ds, h => by show PyData.showableAll ds = true; exact ascs_sh hb h
  | .tuple ds, h => by show PyData.showableAll ds = true; exact ascs_sh hb h
theorem ascs_sh {b : Nat} (hb : b < 2 ^ 100) : ∀ {ds : List PyData}, ascs b ds = true → PyData.showableAll ds = true
  | [], _ => rfl
  | d :: ds, h => by
    have h' : asc b d = true ∧ ascs b ds = true := Bool.and_eq_true_iff.mp h
    show (PyData.showable d && PyData.showableAll ds) = true
    rw [asc_sh hb h'.1, ascs_sh hb h'.2]
    rfl
end
mutual
theorem asc_nd {b : Nat} : ∀ {d : PyData}, asc b d = true → d.hasDict = false
  | .none, _ => rfl
  | .bool _, _ => rfl
  | .int _, _ => rfl
  | .str _, _ => rfl
  | .list ds, h => by show PyData.hasDictAll ds = false; exact ascs_nd (b := b) h
  | .tuple ds, h => by show PyData.hasDictAll ds = false; exact ascs_nd (b := b) h
theorem ascs_nd {b : Nat} : ∀ {ds : List PyData}, ascs b ds = true → PyData.hasDictAll ds = false
  | [], _ => rfl
  | d :: ds, h => by
    have h' : asc b d = true ∧ ascs b ds = true := Bool.and_eq_true_iff.mp h
    show (PyData.hasDict d || PyData.hasDictAll ds) = false
    rw [asc_nd h'.1, ascs_nd h'.2]
    rfl
end
mutual
theorem asc_wt {b : Nat} (hb : b < 2 ^ 100) : ∀ {d : PyData}, asc b d = true → d.shown.length ≤ wt d
  | .none, _ => by decide +kernel
  | .bool true, _ => by decide +kernel
  | .bool false, _ => by decide +kernel
  | .int i, h => (nice_int (n := 0) (i := i) (Nat.lt_of_le_of_lt (of_decide_eq_true h) hb)).sz
  | .str s, h => by
    have h' : s.cps.all (· < 128) = true := h
    show (reprText s).length ≤ 10 * s.length + 2
    refine PySem.StrLaws.reprText_len s fun c hc => ?_
    rw [← Array.all_toList, List.all_eq_true] at h'
    have := of_decide_eq_true (h' c hc)
    omega
  | .list ds, h => by
    have := list_len (PyData.shownAll ds)
    have := ascs_wt hb (ds := ds) h
    show (listText (PyData.shownAll ds)).length ≤ 3 + wts ds
    omega
  | .tuple ds, h => by
    have := tuple_len (PyData.shownAll ds)
    have := ascs_wt hb (ds := ds) h
    show (tupleText (PyData.shownAll ds)).length ≤ 3 + wts ds
    omega
theorem ascs_wt {b : Nat} (hb : b < 2 ^ 100) : ∀ {ds : List PyData}, ascs b ds = true → ((PyData.shownAll ds).map fun t => t.length + 2).sum ≤ wts ds
  | [], _ => Nat.le_refl _
  | d :: ds, h => by
    have h' : asc b d = true ∧ ascs b ds = true := Bool.and_eq_true_iff.mp h
    show ((PyData.shown d :: PyData.shownAll ds).map fun t => t.length + 2).sum ≤ wt d + 2 + wts ds
    rw [List.map_cons, List.sum_cons]
    have := asc_wt hb h'.1
    have := ascs_wt hb h'.2
    omega
end
mutual
theorem asc_up {b c : Nat} (hb : b ≤ c) : ∀ {d : PyData}, asc b d = true → asc c d = true
  | .none, _ => rfl
  | .bool _, _ => rfl
  | .int i, h => decide_eq_true (Nat.le_trans (of_decide_eq_true h) hb)
  | .str _, h => h
  | .list ds, h => by show ascs c ds = true; exact ascs_up hb h
  | .tuple ds, h => by show ascs c ds = true; exact ascs_up hb h
theorem ascs_up {b c : Nat} (hb : b ≤ c) : ∀ {ds : List PyData}, ascs b ds = true → ascs c ds = true
  | [], _ => rfl
  | d :: ds, h => by
    have h' : asc b d = true ∧ ascs b ds = true := Bool.and_eq_true_iff.mp h
    show (asc c d && ascs c ds) = true
    rw [asc_up hb h'.1, ascs_up hb h'.2]
    rfl
end
theorem wts_app : ∀ ds es : List PyData, wts (ds ++ es) = wts ds + wts es
  | [], es => (Nat.zero_add _).symm
  | d :: ds, es => by
    show wt d + 2 + wts (ds ++ es) = wt d + 2 + wts ds + wts es
    rw [wts_app ds es]
    omega
theorem wt_mem : ∀ {ds : List PyData} {d : PyData}, d ∈ ds → wt d + 2 ≤ wts ds
  | e :: ds, d, h => by
    show _ ≤ wt e + 2 + wts ds
    rcases List.mem_cons.mp h with rfl | h
    · omega
    · have := wt_mem h
      omega
theorem wts_all {m : Nat} : ∀ {ds : List PyData}, (∀ d ∈ ds, wt d ≤ m) → wts ds ≤ ds.length * (m + 2)
  | [], _ => Nat.zero_le _
  | d :: ds, h => by
    show wt d + 2 + wts ds ≤ _
    have := h d (List.mem_cons_self ..)
    have := wts_all fun e he => h e (List.mem_cons_of_mem _ he)
    rw [List.length_cons, Nat.succ_mul]
    omega
theorem dep_mem {n : Nat} : ∀ {ds : List PyData} {d : PyData}, PySem.PyData.depthAll ds ≤ n → d ∈ ds → d.depth ≤ n
  | e :: ds, d, h, m => by
    have h' : max e.depth (PySem.PyData.depthAll ds) ≤ n := h
    rcases List.mem_cons.mp m with rfl | m
    · omega
    · exact dep_mem (by omega) m
/-- plain data: numbers of at most b, no deeper than n, a weight of at most m -/
structure Pl (b n m : Nat) (d : PyData) : Prop where
  a : asc b d = true
  dep : d.depth ≤ n
  w : wt d ≤ m
theorem Pl.up {b n m b' n' m' : Nat} {d : PyData} (h : Pl b n m d) (hb : b ≤ b') (hn : n ≤ n') (hm : m ≤ m') : Pl b' n' m' d := ⟨asc_up hb h.a, Nat.le_trans h.dep hn, Nat.le_trans h.w hm⟩
theorem Pl.shaped {b n m : Nat} {d : PyData} (h : Pl b n m d) (hn : n ≤ 64) : SeqAt.shaped d = true := by
  unfold SeqAt.shaped
  rw [asc_lay h.a, decide_eq_true (Nat.le_trans h.dep hn)]
  rfl
theorem shaped_mem {ds : List PyData} (h : SeqAt.shaped (.tuple ds) = true) : ∀ d ∈ ds, SeqAt.shaped d = true := fun d hd => by
  have h1 : PySem.PyData.canLayAll0 ds = true := SeqAt.canLay_of_shaped h
  have h2 : PySem.PyData.depthAll ds + 1 ≤ 64 := SeqAt.depth_of_shaped h
  unfold SeqAt.shaped
  rw [PySem.PyData.canLay0_of_mem ds d h1 hd, decide_eq_true (dep_mem (n := 64) (by omega) hd)]
  rfl
theorem pl_tup {b n m : Nat} {ds : List PyData} (ha : ∀ d ∈ ds, asc b d = true) (hd : ∀ d ∈ ds, d.depth ≤ n) (hw : wts ds ≤ m) : Pl b (n + 1) (3 + m) (.tuple ds) :=
  ⟨ascs_iff.mpr ha, (by have := deep_all hd; show PySem.PyData.depthAll ds + 1 ≤ _; omega), (by show 3 + wts ds ≤ _; omega)⟩
theorem pl_lst {b n m : Nat} {ds : List PyData} (ha : ∀ d ∈ ds, asc b d = true) (hd : ∀ d ∈ ds, d.depth ≤ n) (hw : wts ds ≤ m) : Pl b (n + 1) (3 + m) (.list ds) :=
  ⟨ascs_iff.mpr ha, (by have := deep_all hd; show PySem.PyData.depthAll ds + 1 ≤ _; omega), (by show 3 + wts ds ≤ _; omega)⟩
/-! ### any data beside a text -/
def strB (t : Str) : PyData → Bool
  | .str s => s == t
  | _ => false
def inB (ts : List Str) (d : PyData) : Bool := ts.any fun t => strB t d
theorem eqv_strB {d : PyData} {t : Str} : PyData.eqv d (.str t) = strB t d := by cases d <;> rfl
theorem eqv_strB' {d : PyData} {t : Str} : PyData.eqv (.str t) d = strB t d := by
  cases d with
  | str s => show (t == s) = (s == t); exact Bool.beq_comm
  | _ => rfl
theorem DpsU.strs (H : Hp) : ∀ ts : List Str, DpsU H (ts.map V.str) (ts.map PyData.str)
  | [] => .nil
  | t :: ts => .cons (.str t) (DpsU.strs H ts)
theorem strs_shaped {ts : List Str} (h : ts.all PySem.PyData.strOk = true) : SeqAt.shaped (.tuple (ts.map PyData.str)) = true := by
  have d0 : PySem.PyData.depthAll (ts.map PyData.str) ≤ 0 := deep_all fun x hx => by
    obtain ⟨t, _, rfl⟩ := List.mem_map.mp hx
    exact Nat.le_refl _
  unfold SeqAt.shaped
  have e1 : PySem.PyData.canLay0 (.tuple (ts.map PyData.str)) = true := by
    show PySem.PyData.canLayAll0 _ = true
    rw [lay_all, List.all_map]
    exact h
  rw [e1, decide_eq_true (by show PySem.PyData.depthAll (ts.map PyData.str) + 1 ≤ 64; omega)]
  rfl
def rEqT (K : PySem.W.Frag) (neg : Bool) : R2 := fun x y H Q => ∃ d t, y = .str t ∧ DpU H x d ∧ SeqAt.shaped d = true ∧ PySem.PyData.strOk t = true ∧ Q (.bl (if neg then !strB t d else strB t d)) H
def rInT (K : PySem.W.Frag) (neg : Bool) : R2 := fun x y H Q => ∃ d p ts, y = .ref p ∧ DpU H x d ∧ SqT K H p (ts.map V.str) ∧ SeqAt.shaped d = true ∧ ts.all PySem.PyData.strOk = true ∧ Q (.bl (if neg then !inB ts d else inB ts d)) H
section
variable {X : Cx}
theorem op_eqT (hu : X.A.units + 64 < cLine) : OpR X (compareOp .Eq) (rEqT X.K false) := by
  intro pins s σ H x y v u Q I rx ry h
  obtain ⟨d, t, rfl, hd, sd, st, q⟩ := h
  exact op_eqD hu pins s σ H x _ v u Q I rx ry ⟨d, .str t, hd.dp, .str t, sd, (by unfold SeqAt.shaped; rw [show PySem.PyData.canLay0 (.str t) = true from st]; rfl), by rw [eqv_strB]; exact q⟩
theorem op_neT (hu : X.A.units + 64 < cLine) : OpR X (compareOp .NotEq) (rEqT X.K true) := by
  intro pins s σ H x y v u Q I rx ry h
  obtain ⟨d, t, rfl, hd, sd, st, q⟩ := h
  exact op_neD hu pins s σ H x _ v u Q I rx ry ⟨d, .str t, hd.dp, .str t, sd, (by unfold SeqAt.shaped; rw [show PySem.PyData.canLay0 (.str t) = true from st]; rfl), by rw [eqv_strB]; exact q⟩
theorem inB_any {ts : List Str} {d : PyData} : ((ts.map PyData.str).any fun z => PyData.eqv z d) = inB ts d := by
  rw [List.any_map]
  unfold inB
  congr 1
  funext t
  exact eqv_strB'
theorem op_inT (hu : X.A.units + 65 < cLine) : OpR X (compareOp .In) (rInT X.K false) := by
  intro pins s σ H x y v u Q I rx ry h
  obtain ⟨d, p, ts, rfl, hd, hp, sd, st, q⟩ := h
  obtain ⟨as, r1⟩ := Dp.reads I d x v hd.dp rx
  obtain ⟨bs, r2⟩ := Dp.reads I (.tuple (ts.map PyData.str)) _ u (.tup hp (DpsU.strs H ts).dp) ry
  exact SeqAt.in_tuple_reads r2 r1 (SeqAt.canLay_of_shaped (strs_shaped st)) (SeqAt.canLay_of_shaped sd) (PyProof.Rows.room_in_shaped sd hu) ⟨.bl _, H, I, rfl, by rw [inB_any]; exact q⟩
theorem op_notInT (hu : X.A.units + 65 < cLine) : OpR X (compareOp .NotIn) (rInT X.K true) := by
  intro pins s σ H x y v u Q I rx ry h
  obtain ⟨d, p, ts, rfl, hd, hp, sd, st, q⟩ := h
  obtain ⟨as, r1⟩ := Dp.reads I d x v hd.dp rx
  obtain ⟨bs, r2⟩ := Dp.reads I (.tuple (ts.map PyData.str)) _ u (.tup hp (DpsU.strs H ts).dp) ry
  exact SeqAt.notIn_tuple_reads r2 r1 (SeqAt.canLay_of_shaped (strs_shaped st)) (SeqAt.canLay_of_shaped sd) (PyProof.Rows.room_in_shaped sd hu) ⟨.bl _, H, I, rfl, by rw [inB_any]; exact q⟩
/-- repr(x), x any plain data -/
def rReprV (K : PySem.W.Frag) : List V → Hp → VK → Prop := fun xs H Q => ∃ (v : V) (d : PyData), xs = [v] ∧ DpU H v d ∧ d.showable = true ∧ d.hasDict = false ∧ d.depth ≤ 60 ∧ d.shown.length ≤ sizeLine ∧ Q (.str d.shown) H
theorem call_reprV (gd : X.A.guards = some []) (hu : X.A.units + 64 < cLine) : CallR X (.builtin "repr") (rReprV X.K) := by
  intro pins s σ H xs us Q I r h
  obtain ⟨v, d, rfl, dp, sh, nd, de, sz, q⟩ := h
  obtain ⟨u, rfl, ru⟩ := vals1 r
  cases dp with
  | non => cases ru; exact PySem.P.repr_of_none ⟨.str _, H, I.tok _, ⟨_, rfl⟩, q⟩
  | bl b => cases ru; exact PySem.P.repr_of_bool ⟨.str _, H, I.tok _, ⟨_, rfl⟩, q⟩
  | int i => obtain ⟨t, rfl⟩ := ru; exact PySem.P.repr_of_int (of_decide_eq_true sh) ⟨.str _, H, I.tok _, ⟨_, rfl⟩, q⟩
  | str x => obtain ⟨t, rfl⟩ := ru; exact PySem.P.repr_of_str ⟨.str _, H, I.tok _, ⟨_, rfl⟩, q⟩ (hsz := sz)
  | lst h t =>
    cases ru
    obtain ⟨as, rd⟩ := Dp.reads I _ _ _ (DpU.dp (.lst h t)) rfl
    refine repr_of_reads' rd sh (fun z => by rw [nd] at z; cases z) gd (by omega) (fun _ _ e => e) (fun h' t tk kp => ?_) sz
    exact ⟨.str _, H, I.kept (t' := tk) kp, ⟨_, rfl⟩, q⟩
  | tup h t =>
    cases ru
    obtain ⟨as, rd⟩ := Dp.reads I _ _ _ (DpU.dp (.tup h t)) rfl
    refine repr_of_reads' rd sh (fun z => by rw [nd] at z; cases z) gd (by omega) (fun _ _ e => e) (fun h' t tk kp => ?_) sz
    exact ⟨.str _, H, I.kept (t' := tk) kp, ⟨_, rfl⟩, q⟩
end
end SH

set_option Elab.async false
set_option linter.all false
set_option maxRecDepth 100000
namespace SH
open PySem L2
theorem room65 {k : Nat} {A : Around} (r : Room k A) : A.units + 65 < cLine := by have := r.un; omega
/-! ### what the program says of any data -/
/-- data that can lie, of a bounded weight -/
structure Any (d : PyData) : Prop where
  sh : SeqAt.shaped d = true
  w : wt d ≤ 16000000
theorem Any.mem {ds : List PyData} (h : Any (.tuple ds)) : ∀ d ∈ ds, Any d := fun d hd => ⟨shaped_mem h.sh d hd, by
  have := wt_mem hd
  have : 3 + wts ds ≤ 16000000 := h.w
  omega⟩
theorem wts_len : ∀ ds : List PyData, ds.length * 2 ≤ wts ds
  | [] => Nat.le_refl _
  | d :: ds => by
    have := wts_len ds
    show (ds.length + 1) * 2 ≤ wt d + 2 + wts ds
    omega
theorem Any.len {ds : List PyData} (h : Any (.tuple ds)) : ds.length ≤ 8000000 := by
  have := wts_len ds
  have : 3 + wts ds ≤ 16000000 := h.w
  omega
theorem Any.slen {s : Str} (h : Any (.str s)) : s.length ≤ 1600000 := by
  have : 10 * s.length + 2 ≤ 16000000 := h.w
  omega
def tupN (n : Nat) : PyData → Bool
  | .tuple ds => decide (ds.length = n)
  | _ => false
def wholeB : PyData → Bool
  | .int _ => true
  | _ => false
def withinB (m : Int) : PyData → Bool
  | .int i => decide (0 ≤ i) && decide (i ≤ m)
  | _ => false
def nameT (s : Str) : Bool := decide (1 ≤ s.length) && (decide (s.length ≤ 8) && (!decide (s ∈ kept) && s.cps.toList.all fun c => decide (c ∈ letters.cps.toList)))
def nameD : PyData → Bool
  | .str s => nameT s
  | _ => false
def leafB (a b : PyData) : Bool := if strB "number" a then withinB (1000000 ^ 5 - 1) b else strB "name" a && nameD b
def expB : Nat → PyData → Bool
  | 0, .tuple [a, b] => leafB a b
  | _ + 1, .tuple [a, b] => leafB a b
  | n + 1, .tuple [a, b, c] => inB signsL a && (expB n b && expB n c)
  | _, _ => false
/-- a def that says yes or no of any data -/
def spAny (f : PyData → Bool) : Sp := fun vs H Q _ => ∃ (v : V) (d : PyData), vs = [v] ∧ DpU H v d ∧ Any d ∧ ∀ H', Same H H' → Q (.bl (f d)) H'
def spTupD : Sp := fun vs H Q _ => ∃ (v : V) (d : PyData) (n : Nat), vs = [v, .int n] ∧ DpU H v d ∧ Q (.bl (tupN n d)) H
def spWhD : Sp := fun vs H Q _ => ∃ (v : V) (d : PyData), vs = [v] ∧ DpU H v d ∧ Q (.bl (wholeB d)) H
def spWithD : Sp := fun vs H Q _ => ∃ (v : V) (d : PyData) (m : Int), vs = [v, .int m] ∧ DpU H v d ∧ Q (.bl (withinB m d)) H
def spLeafD : Sp := fun vs H Q _ => ∃ (p : Addr) (x y : V) (a b : PyData), vs = [.ref p] ∧ H p = some (.tup [x, y]) ∧ DpU H x a ∧ DpU H y b ∧ Any a ∧ Any b ∧ ∀ H', Same H H' → Q (.bl (leafB a b)) H'
def spExD (n : Nat) : Sp := fun vs H Q _ => ∃ (v : V) (d : PyData), vs = [v, .int ((n + 1 : Nat) : Int)] ∧ DpU H v d ∧ Any d ∧ ∀ H', Same H H' → Q (.bl (expB n d)) H'
section
variable {P : Program} {w : World} {K : PySem.W.Frag} {mg : Str → Option Value} {base : Heap}
theorem ok_tupD {f : Addr} {fd : FuncData} (F : Fun K "is_tuple_of" "is_tuple_of" sTupOf f fd) (T : Bi mg) (mt : mg "tuple" = none) : FnOk P w K mg base CX0 1 f fd ["thing", "many"] spTupD := by
  refine F.ok scTupOf (fun vs H Q E h => ?_) (fun cdv A outer s H vs Q E hr h => ?_)
  · obtain ⟨v, d, n, rfl, _⟩ := h
    rfl
  obtain ⟨v, d, n, rfl, hd, q⟩ := h
  refine ⟨_, (pss_one (ps_ret (pe_and (pe_callB call_isi (by rfl) T.isinstance (by decide +kernel) (pa_cons (pv 0) (pa_cons (pe_bltn (v := .ty "tuple") (by rfl) mt (by decide +kernel) rfl) pa_nil))) (pe_one (pe_cmpR op_eq (pe_callB call_len_seq (by rfl) T.len (by decide +kernel) (pa_cons (pv 0) pa_nil)) (pv 1) (nomark _)))))), ?_⟩
  cases hd with
  | @tup a xs ds h t =>
    refine ⟨_, rfl, _, _, _, _, true, rfl, .ty "tuple", .base (.tup h), kit_ty (by decide +kernel), _, rfl, ?_⟩
    refine ⟨_, rfl, a, _, rfl, .inr (SqT.of h), _, rfl, rfl, ?_⟩
    have e : decide (V.int ((xs.length : Nat) : Int) = V.int (n : Int)) = tupN n (.tuple ds) := by
      show _ = decide (ds.length = n)
      rw [t.len]
      by_cases z : ds.length = n
      · rw [decide_eq_true z, z, decide_eq_true rfl]
      · rw [decide_eq_false z, decide_eq_false (fun y => z (by injection y with y; omega))]
    rw [e]
    exact q
  | int i => exact ⟨_, rfl, _, _, _, _, false, rfl, .ty "tuple", .base (.int i), kit_ty (by decide +kernel), _, rfl, q⟩
  | bl b => exact ⟨_, rfl, _, _, _, _, false, rfl, .ty "tuple", .base (.bl b), kit_ty (by decide +kernel), _, rfl, q⟩
  | non => exact ⟨_, rfl, _, _, _, _, false, rfl, .ty "tuple", .base .non, kit_ty (by decide +kernel), _, rfl, q⟩
  | str x => exact ⟨_, rfl, _, _, _, _, false, rfl, .ty "tuple", .base (.str x), kit_ty (by decide +kernel), _, rfl, q⟩
  | lst h _ => exact ⟨_, rfl, _, _, _, _, false, rfl, .ty "tuple", .base (.lst h), kit_ty (by decide +kernel), _, rfl, q⟩
theorem ok_whD {x qual : Str} {st : Stmt} {f : Addr} {fd : FuncData} (F : Fun K "is_whole" "is_whole" sWhole f fd) (T : Bi mg) (mt : mg "bool" = none) : FnOk P w K mg base CX0 1 f fd ["thing"] spWhD := by
  refine F.ok scWhole (fun vs H Q E h => ?_) (fun cdv A outer s H vs Q E hr h => ?_)
  · obtain ⟨v, d, rfl, _⟩ := h
    rfl
  obtain ⟨v, d, rfl, hd, q⟩ := h
  refine ⟨_, (pss_one (ps_ret (pe_and (pe_callB call_isi (by rfl) T.isinstance (by decide +kernel) (pa_cons (pv 0) (pa_cons (pe_bltn (v := .ty "int") (by rfl) T.int (by decide +kernel) rfl) pa_nil))) (pe_one (pe_not (pe_callB call_isi (by rfl) T.isinstance (by decide +kernel) (pa_cons (pv 0) (pa_cons (pe_bltn (v := .ty "bool") (by rfl) mt (by decide +kernel) rfl) pa_nil)))))))), ?_⟩
  cases hd with
  | int i =>
    refine ⟨_, rfl, _, _, _, _, true, rfl, .ty "int", .base (.int i), kit_ty (by decide +kernel), _, rfl, ?_⟩
    exact ⟨_, rfl, _, _, _, _, false, rfl, .ty "bool", .base (.int i), kit_ty (by decide +kernel), _, rfl, q⟩
  | bl b =>
    refine ⟨_, rfl, _, _, _, _, true, rfl, .ty "int", .base (.bl b), kit_ty (by decide +kernel), _, rfl, ?_⟩
    exact ⟨_, rfl, _, _, _, _, true, rfl, .ty "bool", .base (.bl b), kit_ty (by decide +kernel), _, rfl, q⟩
  | non => exact ⟨_, rfl, _, _, _, _, false, rfl, .ty "int", .base .non, kit_ty (by decide +kernel), _, rfl, q⟩
  | str x => exact ⟨_, rfl, _, _, _, _, false, rfl, .ty "int", .base (.str x), kit_ty (by decide +kernel), _, rfl, q⟩
  | lst h _ => exact ⟨_, rfl, _, _, _, _, false, rfl, .ty "int", .base (.lst h), kit_ty (by decide +kernel), _, rfl, q⟩
  | tup h _ => exact ⟨_, rfl, _, _, _, _, false, rfl, .ty "int", .base (.tup h), kit_ty (by decide +kernel), _, rfl, q⟩
theorem ok_withD {f g : Addr} {fd gd : FuncData} (F : Fun K "is_whole_within" "is_whole_within" sWithin f fd) (WH : Fk P w K mg base 1 "is_whole" g gd ["thing"] spWhD) : FnOk P w K mg base CX0 2 f fd ["thing", "most"] spWithD := by
  refine F.ok scWithin (fun vs H Q E h => ?_) (fun cdv A outer s H vs Q E hr h => ?_)
  · obtain ⟨v, d, m, rfl, _⟩ := h
    rfl
  obtain ⟨v, d, m, rfl, hd, q⟩ := h
  refine ⟨_, (pss_one (ps_ret (pe_and (pe_call WH.G (hr.mono (by omega)) (by rfl) WH.m WH.k WH.b .nil pass0 (pa_cons (pv 0) pa_nil)) (pe_one (pe_chain op_le op_le pe_int (pv 0) (pv 1)))))), ?_⟩
  cases hd with
  | int i =>
    refine ⟨_, rfl, _, _, rfl, .int i, _, rfl, ?_⟩
    refine ⟨_, rfl, _, _, rfl, rfl, _, rfl, ?_⟩
    by_cases h0 : 0 ≤ i
    · rw [decide_eq_true h0]
      refine ⟨_, rfl, _, _, rfl, rfl, ?_⟩
      have e : withinB m (.int i) = decide (i ≤ m) := by
        show (decide (0 ≤ i) && decide (i ≤ m)) = _
        rw [decide_eq_true h0, Bool.true_and]
      rw [e] at q
      exact q
    · have e : withinB m (.int i) = false := by
        show (decide (0 ≤ i) && decide (i ≤ m)) = _
        rw [decide_eq_false h0, Bool.false_and]
      rw [e] at q
      rw [decide_eq_false h0]
      exact q
  | non => exact ⟨_, rfl, _, _, rfl, .non, _, rfl, q⟩
  | bl b => exact ⟨_, rfl, _, _, rfl, .bl b, _, rfl, q⟩
  | str x => exact ⟨_, rfl, _, _, rfl, .str x, _, rfl, q⟩
  | lst h t => exact ⟨_, rfl, _, _, rfl, .lst h t, _, rfl, q⟩
  | tup h t => exact ⟨_, rfl, _, _, rfl, .tup h t, _, rfl, q⟩
theorem ok_nameD {f : Addr} {fd : FuncData} (F : Fun K "is_name" "is_name" sIsName f fd) (T : Bi mg) (G : Gf K mg) : FnOk P w K mg base CX0 1 f fd ["thing"] (spAny nameD) := by
  refine F.ok scIsName (fun vs H Q E h => ?_) (fun cdv A outer s H vs Q E hr h => ?_)
  · obtain ⟨v, d, rfl, _⟩ := h
    rfl
  obtain ⟨v, d, rfl, hd, hy, q⟩ := h
  obtain ⟨aW, gW, sW⟩ := G.words
  obtain ⟨tL, gLt⟩ := G.letters
  refine ⟨_, (pss_cons (ps_if (PW.pt (pw_or (pt_not (pt_val (pe_callB call_isi (by rfl) T.isinstance (by decide +kernel) (pa_cons (pv 0) (pa_cons (pe_bltn (v := .ty "str") (by rfl) T.str (by decide +kernel) rfl) pa_nil))))) (pw_or1 (pt_not (pt_chain op_le op_le pe_int (pe_callB call_len (by rfl) T.len (by decide +kernel) (pa_cons (pv 0) pa_nil)) (pe_gi G.lets))))))
      (pss_one (ps_ret pe_bl))
      pss_nil)
    (pss_one (ps_ret (pe_and (pe_cmpR op_notIn_seq (pv 0) (pe_glob (v := .ref aW) rfl gW rfl) rfl) (pe_one (pe_callB (cr_all rfl) (by rfl) T.all (by decide +kernel) (pa_cons (pe_lc (own := [("letter", 1)]) (g := gName 1) (tt := tYes) (by rfl) scIsName.nd (pi_str (pv 0)) (blkOk_by (own := [("letter", 1)]) (N := ["thing", "letter"]) (sc := defScope sIsName) (by decide +kernel)) (fun _ _ _ _ _ => pg_name (i := 1) scIsName.nd rfl (Or.inl rfl)) (fun _ _ _ _ _ => pts_nil) (fun _ _ _ _ _ => (pe_cmpR op_in_sign (pv 1) (pe_glob (v := .str letters) rfl gLt ⟨_, rfl⟩) rfl))) pa_nil))))))), ?_⟩
  have hs : sizeLine = 16777216 := by decide
  cases hd with
  | str z =>
    have hz := hy.slen
    refine ⟨_, rfl, _, _, _, _, true, rfl, .ty "str", .base (.str z), kit_ty (by decide +kernel), _, rfl, ?_⟩
    refine ⟨_, rfl, _, z.length, rfl, ⟨by omega, rfl⟩, _, _, rfl, rfl, _, rfl, ?_⟩
    by_cases c1 : 1 ≤ z.length
    · rw [decide_eq_true (by omega : (1 : Int) ≤ (z.length : Nat))]
      refine ⟨_, _, rfl, rfl, _, rfl, ?_⟩
      by_cases c2 : z.length ≤ 8
      · rw [decide_eq_true (by omega : ((z.length : Nat) : Int) ≤ 8)]
        refine ⟨_, rfl, aW, _, rfl, .inr (sW _), rfl, flat_strs kept, _, rfl, ?_⟩
        rw [if_pos rfl, inV_str]
        by_cases ck : z ∈ kept
        · have e : nameD (.str z) = false := by
            show (decide (1 ≤ z.length) && (decide (z.length ≤ 8) && (!decide (z ∈ kept) && _))) = false
            rw [decide_eq_true ck, Bool.not_true, Bool.false_and, Bool.and_false, Bool.and_false]
          rw [e] at q
          rw [decide_eq_true ck]
          exact q H (Same.refl H)
        · rw [decide_eq_false ck]
          refine ⟨_, rfl, z, rfl, ?_⟩
          intro D hD
          refine lc_it walk_str (fun j H' => H' D = some (.lst (((z.cps.toList.take j).map fun c => decide (c ∈ letters.cps.toList)).map V.bl)) ∧ Same H H') ⟨upd_same, same_new hD _⟩ (fun _ _ _ _ => trivial) ?_ ?_
          · rintro j x H1 H2 hj ⟨hD1, s1⟩ ⟨rfl, c, hc, rfl⟩
            refine ⟨rfl, ?_⟩
            refine ⟨_, rfl, c, letters, rfl, rfl, ?_⟩
            refine ⟨_, hD1, ?_, ?_, ?_⟩
            · rw [List.length_map, List.length_map, List.length_take]
              have : j < z.length := hj
              omega
            · have e1 : z.cps.toList[j]? = some c := by
                rw [Array.getElem?_toList]
                exact hc
              rw [upd_same, List.take_add_one, e1, List.map_append, List.map_append]
              rfl
            · intro x o zz
              rw [upd_ne (ne_of_none zz hD)]
              exact s1 _ _ zz
          · rintro H1 ⟨hD1, s1⟩
            refine ⟨D, _, rfl, SqL.of hD1, ?_⟩
            have e : ((List.take z.cps.size z.cps.toList).map fun c => decide (c ∈ letters.cps.toList)).all id = nameD (.str z) := by
              rw [List.take_of_length_le (by simp), List.all_map]
              show _ = (decide (1 ≤ z.length) && (decide (z.length ≤ 8) && (!decide (z ∈ kept) && _)))
              rw [decide_eq_true c1, decide_eq_true c2, decide_eq_false ck]
              rfl
            rw [e]
            exact q H1 s1
      · have e : nameD (.str z) = false := by
          show (decide (1 ≤ z.length) && (decide (z.length ≤ 8) && _)) = false
          rw [decide_eq_false c2, Bool.false_and, Bool.and_false]
        rw [e] at q
        rw [decide_eq_false (by omega : ¬ ((z.length : Nat) : Int) ≤ 8)]
        exact iteT (q H (Same.refl H))
    · have e : nameD (.str z) = false := by
        show (decide (1 ≤ z.length) && _) = false
        rw [decide_eq_false c1, Bool.false_and]
      rw [e] at q
      rw [decide_eq_false (by omega : ¬ (1 : Int) ≤ (z.length : Nat))]
      rw [if_neg Bool.false_ne_true]
      exact ⟨false, rfl, iteT (q H (Same.refl H))⟩
  | int i => exact ⟨_, rfl, _, _, _, _, false, rfl, .ty "str", .base (.int i), kit_ty (by decide +kernel), _, rfl, iteT (q H (Same.refl H))⟩
  | bl b => exact ⟨_, rfl, _, _, _, _, false, rfl, .ty "str", .base (.bl b), kit_ty (by decide +kernel), _, rfl, iteT (q H (Same.refl H))⟩
  | non => exact ⟨_, rfl, _, _, _, _, false, rfl, .ty "str", .base .non, kit_ty (by decide +kernel), _, rfl, iteT (q H (Same.refl H))⟩
  | lst h _ => exact ⟨_, rfl, _, _, _, _, false, rfl, .ty "str", .base (.lst h), kit_ty (by decide +kernel), _, rfl, iteT (q H (Same.refl H))⟩
  | tup h _ => exact ⟨_, rfl, _, _, _, _, false, rfl, .ty "str", .base (.tup h), kit_ty (by decide +kernel), _, rfl, iteT (q H (Same.refl H))⟩
theorem ok_leafD {f g h : Addr} {fd gd hd : FuncData} (F : Fun K "is_leaf" "is_leaf" sLeaf f fd) (WI : Fk P w K mg base 2 "is_whole_within" g gd ["thing", "most"] spWithD) (IN : Fk P w K mg base 1 "is_name" h hd ["thing"] (spAny nameD)) (G : Gf K mg) : FnOk P w K mg base CX0 3 f fd ["pair"] spLeafD := by
  refine F.ok scLeaf (fun vs H Q E h => ?_) (fun cdv A outer s H vs Q E hr h => ?_)
  · obtain ⟨p, x, y, a, b, rfl, _⟩ := h
    rfl
  obtain ⟨p, x, y, a, b, rfl, hp, hx, hy, ya, yb, q⟩ := h
  refine ⟨_, (pss_cons (ps_if (pt_cmpR (op_eqT hr.units) (pe_ix ix_tup (pv 0) pe_int (fun _ _ => rfl)) pe_str (nomark _))
      (pss_one (ps_ret (pe_call WI.G (hr.mono (by omega)) (by rfl) WI.m WI.k WI.b .nil pass0 (pa_cons (pe_ix ix_tup (pv 0) pe_int (fun _ _ => rfl)) (pa_cons (pe_gi G.num) pa_nil)))))
      pss_nil)
    (pss_one (ps_ret (pe_and (pe_cmpR (op_eqT hr.units) (pe_ix ix_tup (pv 0) pe_int (fun _ _ => rfl)) pe_str (nomark _)) (pe_one (pe_call IN.G (hr.mono (by omega)) (by rfl) IN.m IN.k IN.b .nil pass0 (pa_cons (pe_ix ix_tup (pv 0) pe_int (fun _ _ => rfl)) pa_nil))))))), ?_⟩
  refine ⟨_, rfl, p, _, 0, _, rfl, rfl, SqT.of hp, atI_nat rfl, a, _, rfl, hx, ya.sh, by decide +kernel, _, rfl, ?_⟩
  rw [if_neg Bool.false_ne_true]
  cases c : strB "number" a with
  | true =>
    have e : leafB a b = withinB (1000000 ^ 5 - 1) b := if_pos c
    rw [e] at q
    exact iteT ⟨_, rfl, p, _, 1, _, rfl, rfl, SqT.of hp, atI_nat (j := 1) rfl, y, b, _, rfl, hy, q H (Same.refl H)⟩
  | false =>
    have e : leafB a b = (strB "name" a && nameD b) := if_neg (by rw [c]; exact Bool.false_ne_true)
    rw [e] at q
    refine iteF ⟨_, rfl, p, _, 0, _, rfl, rfl, SqT.of hp, atI_nat rfl, a, _, rfl, hx, ya.sh, by decide +kernel, _, rfl, ?_⟩
    rw [if_neg Bool.false_ne_true]
    cases c2 : strB "name" a with
    | false =>
      rw [c2] at q
      exact q H (Same.refl H)
    | true =>
      rw [c2, Bool.true_and] at q
      exact ⟨_, rfl, p, _, 1, _, rfl, rfl, SqT.of hp, atI_nat (j := 1) rfl, y, b, rfl, hy, yb, q⟩
end
end SH

set_option Elab.async false
set_option linter.all false
set_option maxRecDepth 100000
namespace SH
open PySem L2
theorem expB_2 (a b : PyData) : ∀ n, expB n (.tuple [a, b]) = leafB a b
  | 0 => rfl
  | _ + 1 => rfl
theorem expB_no {d : PyData} (h : tupN 2 d = false) (k : tupN 3 d = false) : ∀ n, expB n d = false := fun n => by
  cases d with
  | tuple ds =>
    match ds, h, k with
    | [], _, _ => cases n <;> rfl
    | [_], _, _ => cases n <;> rfl
    | [_, _], h, _ => cases h
    | [_, _, _], _, k => cases k
    | _ :: _ :: _ :: _ :: _, _, _ => cases n <;> rfl
  | none => cases n <;> rfl
  | bool _ => cases n <;> rfl
  | int _ => cases n <;> rfl
  | str _ => cases n <;> rfl
  | list _ => cases n <;> rfl
  | dict _ => cases n <;> rfl
/-- the parts of a tuple of so many -/
theorem tup2 {H : Hp} {v : V} {d : PyData} (h : DpU H v d) (e : tupN 2 d = true) : ∃ (p : Addr) (x y : V) (a b : PyData), v = .ref p ∧ d = .tuple [a, b] ∧ H p = some (.tup [x, y]) ∧ DpU H x a ∧ DpU H y b := by
  cases h with
  | tup h t =>
    have e' := of_decide_eq_true e
    cases t with
    | nil => cases e'
    | cons hx t =>
      cases t with
      | nil => cases e'
      | cons hy t =>
        cases t with
        | nil => exact ⟨_, _, _, _, _, rfl, rfl, h, hx, hy⟩
        | cons _ _ => simp at e'
  | _ => cases e
theorem tup3 {H : Hp} {v : V} {d : PyData} (h : DpU H v d) (e : tupN 3 d = true) : ∃ (p : Addr) (x y z : V) (a b c : PyData), v = .ref p ∧ d = .tuple [a, b, c] ∧ H p = some (.tup [x, y, z]) ∧ DpU H x a ∧ DpU H y b ∧ DpU H z c := by
  cases h with
  | tup h t =>
    have e' := of_decide_eq_true e
    cases t with
    | nil => cases e'
    | cons hx t =>
      cases t with
      | nil => cases e'
      | cons hy t =>
        cases t with
        | nil => simp at e'
        | cons hz t =>
          cases t with
          | nil => exact ⟨_, _, _, _, _, _, _, rfl, rfl, h, hx, hy, hz⟩
          | cons _ _ => simp at e'
  | _ => cases e
theorem tup4 {H : Hp} {v : V} {d : PyData} (h : DpU H v d) (e : tupN 4 d = true) : ∃ (p : Addr) (x y z u : V) (a b c f : PyData), v = .ref p ∧ d = .tuple [a, b, c, f] ∧ H p = some (.tup [x, y, z, u]) ∧ DpU H x a ∧ DpU H y b ∧ DpU H z c ∧ DpU H u f := by
  cases h with
  | tup h t =>
    have e' := of_decide_eq_true e
    cases t with
    | nil => cases e'
    | cons hx t =>
      cases t with
      | nil => cases e'
      | cons hy t =>
        cases t with
        | nil => simp at e'
        | cons hz t =>
          cases t with
          | nil => simp at e'
          | cons hu t =>
            cases t with
            | nil => exact ⟨_, _, _, _, _, _, _, _, _, rfl, rfl, h, hx, hy, hz, hu⟩
            | cons _ _ => simp at e'
  | _ => cases e
theorem signs_so : signsL.all PySem.PyData.strOk = true := by decide +kernel
def strsOf (ds : List PyData) : List Str := ds.filterMap fun d => match d with
  | .str s => some s
  | _ => none
def setLen (ds : List PyData) : Nat := (SHSet.dd (strsOf ds)).length
def namesD : PyData → Bool
  | .tuple ds => decide (ds.length ≤ 4) && (ds.all nameD && decide (setLen ds = ds.length))
  | _ => false
def expsD : PyData → Bool
  | .tuple ds => decide (ds.length ≤ 4) && ds.all (expB 5)
  | _ => false
def ifHeadB : PyData → Bool
  | .tuple [a, b, _, _] => strB "if" a && expB 5 b
  | _ => false
def noneB : PyData → Bool
  | .none => true
  | _ => false
def plainB : PyData → Bool
  | .tuple [a, b] => inB ["give", "fail"] a && expB 5 b
  | .tuple [a, b, c] => strB "put" a && (nameD b && expB 5 c)
  | .tuple [a, b, c, e] => nameD b && (nameD c && (if strB "wait" a then noneB e || expB 5 e else inB ["go", "call"] a && expsD e))
  | _ => false
theorem strs_of {H : Hp} : ∀ {vs : List V} {ds : List PyData}, DpsU H vs ds → ds.all nameD = true → ∃ ts : List Str, vs = ts.map V.str ∧ ds = ts.map PyData.str
  | _, _, .nil, _ => ⟨[], rfl, rfl⟩
  | _, _, .cons a t, h => by
    rw [List.all_cons, Bool.and_eq_true] at h
    obtain ⟨ts, e1, e2⟩ := strs_of t h.2
    cases a with
    | str x => exact ⟨x :: ts, by rw [e1]; rfl, by rw [e2]; rfl⟩
    | _ => cases h.1
theorem strsOf_map (ts : List Str) : strsOf (ts.map PyData.str) = ts := by
  unfold strsOf
  rw [List.filterMap_map]
  induction ts with
  | nil => rfl
  | cons t ts ih => show t :: List.filterMap _ ts = _; rw [ih]
section
variable {P : Program} {w : World} {K : PySem.W.Frag} {mg : Str → Option Value} {base : Heap}
theorem ok_exD {n : Nat} {f t l : Addr} {fd td ld : FuncData} (F : FunD K "is_expression" "is_expression" (defArgs sIsEx) (defBody sIsEx) (defScope sIsEx) [.int 6] [] f fd) (TO : Fk P w K mg base 1 "is_tuple_of" t td ["thing", "many"] spTupD) (LF : Fk P w K mg base 3 "is_leaf" l ld ["pair"] spLeafD)
    (SI : 1 ≤ n → FnOk P w K mg base CX0 (n + 3) f fd ["thing", "deepest"] (spExD (n - 1))) (mI : mg "is_expression" = some (.ref f)) (bI : Binds K fd ["thing", "deepest"] []) (G : Gf K mg) : FnOk P w K mg base CX0 (n + 4) f fd ["thing", "deepest"] (spExD n) := by
  refine ok0 F scIsEx (fun vs H Q E h => ?_) (fun cdv A outer s H vs Q E hr h => ?_)
  · obtain ⟨v, d, rfl, _⟩ := h
    rfl
  obtain ⟨v, d, rfl, hd, hy, q⟩ := h
  obtain ⟨aS, gS, sS⟩ := G.signs
  have BG : ∃ sp, FnOk P w K mg base CX0 (n + 3) f fd ["thing", "deepest"] sp ∧ (1 ≤ n → sp = spExD (n - 1)) := by
    by_cases h1 : 1 ≤ n
    · exact ⟨_, SI h1, fun _ => rfl⟩
    · refine ⟨fun _ _ _ _ => False, ⟨fun _ _ _ _ h => h.elim, fun _ _ _ _ _ _ _ _ _ _ _ _ _ h => h.elim⟩, fun z => absurd z h1⟩
  obtain ⟨spB, GB, eB⟩ := BG
  have IE : Fk P w K mg base (n + 3) "is_expression" f fd ["thing", "deepest"] spB := ⟨GB, mI, F.kp, bI⟩
  refine ⟨_, (pss_cons (ps_if (pt_val (pe_call TO.G (hr.mono (by omega)) (by rfl) TO.m TO.k TO.b .nil pass0 (pa_cons (pv 0) (pa_cons pe_int pa_nil))))
      (pss_one (ps_ret (pe_call LF.G (hr.mono (by omega)) (by rfl) LF.m LF.k LF.b .nil pass0 (pa_cons (pv 0) pa_nil))))
      pss_nil)
    (pss_cons (ps_if (PW.pt (pw_or (pt_not (pt_val (pe_call TO.G (hr.mono (by omega)) (by rfl) TO.m TO.k TO.b .nil pass0 (pa_cons (pv 0) (pa_cons pe_int pa_nil))))) (pw_or1 (pt_cmpR (op_notInT (room65 hr)) (pe_ix ix_tup (pv 0) pe_int (fun _ _ => rfl)) (pe_glob (v := .ref aS) rfl gS rfl) rfl))))
      (pss_one (ps_ret pe_bl))
      pss_nil)
    (pss_one (ps_ret (pe_and (pe_cmpR op_gt (pv 1) pe_int (nomark _)) (pe_and (pe_call IE.G hr (by rfl) IE.m IE.k IE.b .nil pass0 (pa_cons (pe_ix ix_tup (pv 0) pe_int (fun _ _ => rfl)) (pa_cons (pe_op op_sub (pv 1) pe_int) pa_nil))) (pe_one (pe_call IE.G hr (by rfl) IE.m IE.k IE.b .nil pass0 (pa_cons (pe_ix ix_tup (pv 0) pe_int (fun _ _ => rfl)) (pa_cons (pe_op op_sub (pv 1) pe_int) pa_nil)))))))))), ?_⟩
  refine ⟨_, rfl, v, d, 2, rfl, hd, _, rfl, ?_⟩
  cases c2 : tupN 2 d with
  | true =>
    obtain ⟨p, x, y, a, b, rfl, rfl, hp, hx, hy'⟩ := tup2 hd c2
    refine iteT ⟨_, rfl, p, x, y, a, b, rfl, hp, hx, hy', hy.mem a (by simp), hy.mem b (by simp), fun H' s' => ?_⟩
    have := q H' s'
    rw [expB_2] at this
    exact this
  | false =>
    refine iteF ⟨_, rfl, v, d, 3, rfl, hd, _, rfl, ?_⟩
    cases c3 : tupN 3 d with
    | false =>
      have := q H (Same.refl H)
      rw [expB_no c2 c3] at this
      exact this
    | true =>
      obtain ⟨p, x, y, z, a, b, c, rfl, rfl, hp, hx, hyb, hzc⟩ := tup3 hd c3
      have ya := hy.mem a (by simp)
      refine ⟨_, rfl, p, _, 0, _, rfl, rfl, SqT.of hp, atI_nat rfl, a, aS, signsL, rfl, hx, sS _, ya.sh, signs_so, _, rfl, ?_⟩
      rw [if_pos rfl]
      cases ci : inB signsL a with
      | false =>
        have e : expB n (.tuple [a, b, c]) = false := by
          cases n with
          | zero => rfl
          | succ m => show (inB signsL a && _) = false; rw [ci]; rfl
        have := q H (Same.refl H)
        rw [e] at this
        exact this
      | true =>
        refine ⟨_, rfl, _, _, rfl, rfl, _, rfl, ?_⟩
        by_cases hn : 1 ≤ n
        · obtain ⟨m, rfl⟩ : ∃ m, n = m + 1 := ⟨n - 1, by omega⟩
          obtain rfl := eB hn
          have e : expB (m + 1) (.tuple [a, b, c]) = (expB m b && expB m c) := by
            show (inB signsL a && _) = _
            rw [ci, Bool.true_and]
          rw [e] at q
          have en : (((m + 1 + 1 : Nat) : Int)) - 1 = ((m + 1 - 1 + 1 : Nat) : Int) := by omega
          rw [decide_eq_true (by omega : (1 : Int) < ((m + 1 + 1 : Nat) : Int))]
          refine ⟨_, rfl, p, _, 1, _, rfl, rfl, SqT.of hp, atI_nat (j := 1) rfl, _, rfl, _, _, rfl, rfl, y, b, (by show [y, V.int (((m + 1 + 1 : Nat) : Int) - 1)] = _; rw [en]), hyb, hy.mem b (by simp), fun H1 s1 => ?_⟩
          refine ⟨_, rfl, ?_⟩
          have hm : m + 1 - 1 = m := rfl
          rw [hm]
          cases cb : expB m b with
          | false =>
            have := q H1 s1
            rw [cb] at this
            exact this
          | true =>
            rw [cb, Bool.true_and] at q
            exact ⟨_, rfl, p, _, 2, _, rfl, rfl, SqT.of (s1 _ _ hp), atI_nat (j := 2) rfl, _, rfl, _, _, rfl, rfl, z, c, (by show [z, V.int (((m + 1 + 1 : Nat) : Int) - 1)] = _; rw [en]; rfl), hzc.same s1, hy.mem c (by simp), fun H2 s2 => q H2 (s1.trans s2)⟩
        · obtain rfl : n = 0 := by omega
          exact q H (Same.refl H)
theorem exDs {f t l : Addr} {fd td ld : FuncData} (F : FunD K "is_expression" "is_expression" (defArgs sIsEx) (defBody sIsEx) (defScope sIsEx) [.int 6] [] f fd) (m : mg "is_expression" = some (.ref f)) (bd : Binds K fd ["thing", "deepest"] []) (TO : Fk P w K mg base 1 "is_tuple_of" t td ["thing", "many"] spTupD) (LF : Fk P w K mg base 3 "is_leaf" l ld ["pair"] spLeafD) (G : Gf K mg) :
    ∀ n : Nat, FnOk P w K mg base CX0 (n + 4) f fd ["thing", "deepest"] (spExD n)
  | 0 => ok_exD F TO LF (fun h => absurd h (by decide)) m bd G
  | n + 1 => ok_exD F TO LF (fun _ => exDs F m bd TO LF G n) m bd G
theorem ok_namesD {f i : Addr} {fd idd : FuncData} (F : Fun K "are_names" "are_names" sAreNames f fd) (IN : Fk P w K mg base 1 "is_name" i idd ["thing"] (spAny nameD)) (T : Bi mg) (G : Gf K mg) (mt : mg "tuple" = none) (msx : mg "set" = none) : FnOk P w K mg base CX0 2 f fd ["thing"] (spAny namesD) := by
  refine F.ok scAreNames (fun vs H Q E h => ?_) (fun cdv A outer s H vs Q E hr h => ?_)
  · obtain ⟨v, d, rfl, _⟩ := h
    rfl
  obtain ⟨v, d, rfl, hd, hy, q⟩ := h
  refine ⟨_, (pss_cons (ps_if (PW.pt (pw_or (pt_not (pt_val (pe_callB call_isi (by rfl) T.isinstance (by decide +kernel) (pa_cons (pv 0) (pa_cons (pe_bltn (v := .ty "tuple") (by rfl) mt (by decide +kernel) rfl) pa_nil))))) (pw_or1 (pt_cmpR op_gt (pe_callB call_len_seq (by rfl) T.len (by decide +kernel) (pa_cons (pv 0) pa_nil)) (pe_gi G.names) (nomark _)))))
      (pss_one (ps_ret pe_bl))
      pss_nil)
    (pss_one (ps_ret (pe_and (pe_callB (cr_all rfl) (by rfl) T.all (by decide +kernel) (pa_cons (pe_lc (own := [("part", 1)]) (g := gName 1) (tt := tYes) (by rfl) scAreNames.nd (pi_tup (pv 0)) (blkOk_by (own := [("part", 1)]) (N := ["thing", "part"]) (sc := defScope sAreNames) (by decide +kernel)) (fun _ _ _ _ _ => pg_name (i := 1) scAreNames.nd rfl (Or.inl rfl)) (fun _ _ _ _ _ => pts_nil) (fun _ _ _ _ _ => (pe_call IN.G (hr.mono (by omega)) (by rfl) IN.m IN.k IN.b .nil pass0 (pa_cons (pv 1) pa_nil)))) pa_nil)) (pe_one (pe_cmpR op_eq (pe_lenTxt (by rfl) T.len (by rfl) msx (pv 0)) (pe_callB call_len_seq (by rfl) T.len (by decide +kernel) (pa_cons (pv 0) pa_nil)) (nomark _))))))), ?_⟩
  have hs : sizeLine = 16777216 := by decide
  cases hd with
  | @tup a xs ds ha t =>
    have hl := t.len
    refine ⟨_, rfl, _, _, _, _, true, rfl, .ty "tuple", .base (.tup ha), kit_ty (by decide +kernel), _, rfl, ?_⟩
    refine ⟨_, rfl, a, _, rfl, .inr (SqT.of ha), _, _, rfl, rfl, _, rfl, ?_⟩
    rw [hl]
    by_cases h4 : ds.length ≤ 4
    · rw [decide_eq_false (by omega : ¬ (4 : Int) < (ds.length : Nat))]
      refine ⟨_, rfl, a, rfl, ⟨_, SqT.of ha⟩, ?_⟩
      intro D hD
      refine lc_tup (K := K) (a := a) (xs := xs) (fun j H' => H' D = some (.lst (((ds.take j).map nameD).map V.bl)) ∧ Same H H') ⟨upd_same, same_new hD _⟩ (fun j H' _ h => SqT.of (h.2 _ _ ha)) ?_ ?_
      · rintro j x H2 hx ⟨hD2, s2⟩
        obtain ⟨d, ed, hd⟩ := t.get hx
        have hj : j < ds.length := (List.getElem?_eq_some_iff.mp ed).1
        refine ⟨rfl, ?_⟩
        refine ⟨_, rfl, x, d, rfl, hd.same s2, hy.mem d (List.mem_of_getElem? ed), fun H3 s3 => ?_⟩
        refine ⟨_, s3 _ _ hD2, by rw [List.length_map, List.length_map, List.length_take]; omega, ?_, ?_⟩
        · rw [upd_same, List.take_add_one, ed, List.map_append, List.map_append]
          rfl
        · intro x o zz
          rw [upd_ne (ne_of_none zz hD)]
          exact s3 _ _ (s2 _ _ zz)
      · rintro H2 ⟨hD2, s2⟩
        rw [hl, List.take_length] at hD2
        refine ⟨D, _, rfl, SqL.of hD2, ?_⟩
        have e1 : (ds.map nameD).all id = ds.all nameD := by rw [List.all_map]; rfl
        rw [e1]
        have e2 : namesD (.tuple ds) = (ds.all nameD && decide (setLen ds = ds.length)) := by
          show (decide (ds.length ≤ 4) && _) = _
          rw [decide_eq_true h4, Bool.true_and]
        rw [e2] at q
        cases ca : ds.all nameD with
        | false =>
          rw [ca] at q
          exact ⟨_, rfl, q H2 s2⟩
        | true =>
          rw [ca, Bool.true_and] at q
          obtain ⟨ts, rfl, rfl⟩ := strs_of t ca
          refine ⟨_, rfl, ?_⟩
          refine ⟨_, rfl, a, ts, rfl, SqT.of (s2 _ _ ha), by rw [List.length_map] at h4; omega, ?_⟩
          refine ⟨_, rfl, a, _, rfl, .inr (SqT.of (s2 _ _ ha)), rfl, ?_⟩
          have q0 := q H2 s2
          unfold setLen at q0
          rw [strsOf_map] at q0
          have e3 : ∀ n m : Nat, decide (V.int (n : Int) = V.int (m : Int)) = decide (n = m) := fun n m => by
            by_cases z : n = m
            · rw [z, decide_eq_true rfl, decide_eq_true rfl]
            · rw [decide_eq_false z, decide_eq_false (fun y => z (by injection y with y; omega))]
          rw [hl, e3]
          exact q0
    · have e2 : namesD (.tuple ds) = false := by
        show (decide (ds.length ≤ 4) && _) = _
        rw [decide_eq_false h4, Bool.false_and]
      rw [e2] at q
      rw [decide_eq_true (by omega : (4 : Int) < (ds.length : Nat))]
      exact q H (Same.refl H)
  | int i => exact ⟨_, rfl, _, _, _, _, false, rfl, .ty "tuple", .base (.int i), kit_ty (by decide +kernel), _, rfl, q H (Same.refl H)⟩
  | bl b => exact ⟨_, rfl, _, _, _, _, false, rfl, .ty "tuple", .base (.bl b), kit_ty (by decide +kernel), _, rfl, q H (Same.refl H)⟩
  | non => exact ⟨_, rfl, _, _, _, _, false, rfl, .ty "tuple", .base .non, kit_ty (by decide +kernel), _, rfl, q H (Same.refl H)⟩
  | str x => exact ⟨_, rfl, _, _, _, _, false, rfl, .ty "tuple", .base (.str x), kit_ty (by decide +kernel), _, rfl, q H (Same.refl H)⟩
  | lst h _ => exact ⟨_, rfl, _, _, _, _, false, rfl, .ty "tuple", .base (.lst h), kit_ty (by decide +kernel), _, rfl, q H (Same.refl H)⟩
theorem ok_expsD {f i : Addr} {fd idd : FuncData} {dv : List Value} (F : Fun K "are_expressions" "are_expressions" sAreEx f fd) (IE : Fk P w K mg base 9 "is_expression" i idd ["thing", "deepest"] (spExD 5)) (vE : Vals [V.int 6] dv) (bE : Binds K idd ["thing", "deepest"] dv) (T : Bi mg) (G : Gf K mg) (mt : mg "tuple" = none) :
    FnOk P w K mg base CX0 10 f fd ["thing"] (spAny expsD) := by
  refine F.ok scAreEx (fun vs H Q E h => ?_) (fun cdv A outer s H vs Q E hr h => ?_)
  · obtain ⟨v, d, rfl, _⟩ := h
    rfl
  obtain ⟨v, d, rfl, hd, hy, q⟩ := h
  refine ⟨_, (pss_cons (ps_if (PW.pt (pw_or (pt_not (pt_val (pe_callB call_isi (by rfl) T.isinstance (by decide +kernel) (pa_cons (pv 0) (pa_cons (pe_bltn (v := .ty "tuple") (by rfl) mt (by decide +kernel) rfl) pa_nil))))) (pw_or1 (pt_cmpR op_gt (pe_callB call_len_seq (by rfl) T.len (by decide +kernel) (pa_cons (pv 0) pa_nil)) (pe_gi G.exprs) (nomark _)))))
      (pss_one (ps_ret pe_bl))
      pss_nil)
    (pss_one (ps_ret (pe_callB (cr_all rfl) (by rfl) T.all (by decide +kernel) (pa_cons (pe_lc (own := [("part", 1)]) (g := gName 1) (tt := tYes) (by rfl) scAreEx.nd (pi_tup (pv 0)) (blkOk_by (own := [("part", 1)]) (N := ["thing", "part"]) (sc := defScope sAreEx) (by decide +kernel)) (fun _ _ _ _ _ => pg_name (i := 1) scAreEx.nd rfl (Or.inl rfl)) (fun _ _ _ _ _ => pts_nil) (fun _ _ _ _ _ => (pe_call IE.G (hr.mono (by omega)) (by rfl) IE.m IE.k bE vE pass0 (pa_cons (pv 1) pa_nil)))) pa_nil))))), ?_⟩
  have hs : sizeLine = 16777216 := by decide
  cases hd with
  | @tup a xs ds ha t =>
    have hl := t.len
    refine ⟨_, rfl, _, _, _, _, true, rfl, .ty "tuple", .base (.tup ha), kit_ty (by decide +kernel), _, rfl, ?_⟩
    refine ⟨_, rfl, a, _, rfl, .inr (SqT.of ha), _, _, rfl, rfl, _, rfl, ?_⟩
    rw [hl]
    by_cases h4 : ds.length ≤ 4
    · rw [decide_eq_false (by omega : ¬ (4 : Int) < (ds.length : Nat))]
      refine ⟨_, rfl, a, rfl, ⟨_, SqT.of ha⟩, ?_⟩
      intro D hD
      refine lc_tup (K := K) (a := a) (xs := xs) (fun j H' => H' D = some (.lst (((ds.take j).map (expB 5)).map V.bl)) ∧ Same H H') ⟨upd_same, same_new hD _⟩ (fun j H' _ h => SqT.of (h.2 _ _ ha)) ?_ ?_
      · rintro j x H2 hx ⟨hD2, s2⟩
        obtain ⟨d, ed, hd⟩ := t.get hx
        have hj : j < ds.length := (List.getElem?_eq_some_iff.mp ed).1
        refine ⟨rfl, ?_⟩
        refine ⟨_, rfl, x, d, rfl, hd.same s2, hy.mem d (List.mem_of_getElem? ed), fun H3 s3 => ?_⟩
        refine ⟨_, s3 _ _ hD2, by rw [List.length_map, List.length_map, List.length_take]; omega, ?_, ?_⟩
        · rw [upd_same, List.take_add_one, ed, List.map_append, List.map_append]
          rfl
        · intro x o zz
          rw [upd_ne (ne_of_none zz hD)]
          exact s3 _ _ (s2 _ _ zz)
      · rintro H2 ⟨hD2, s2⟩
        rw [hl, List.take_length] at hD2
        refine ⟨D, _, rfl, SqL.of hD2, ?_⟩
        have e1 : (ds.map (expB 5)).all id = ds.all (expB 5) := by rw [List.all_map]; rfl
        rw [e1]
        have e2 : expsD (.tuple ds) = ds.all (expB 5) := by
          show (decide (ds.length ≤ 4) && _) = _
          rw [decide_eq_true h4, Bool.true_and]
        rw [e2] at q
        exact q H2 s2
    · have e2 : expsD (.tuple ds) = false := by
        show (decide (ds.length ≤ 4) && _) = _
        rw [decide_eq_false h4, Bool.false_and]
      rw [e2] at q
      rw [decide_eq_true (by omega : (4 : Int) < (ds.length : Nat))]
      exact q H (Same.refl H)
  | int i => exact ⟨_, rfl, _, _, _, _, false, rfl, .ty "tuple", .base (.int i), kit_ty (by decide +kernel), _, rfl, q H (Same.refl H)⟩
  | bl b => exact ⟨_, rfl, _, _, _, _, false, rfl, .ty "tuple", .base (.bl b), kit_ty (by decide +kernel), _, rfl, q H (Same.refl H)⟩
  | non => exact ⟨_, rfl, _, _, _, _, false, rfl, .ty "tuple", .base .non, kit_ty (by decide +kernel), _, rfl, q H (Same.refl H)⟩
  | str x => exact ⟨_, rfl, _, _, _, _, false, rfl, .ty "tuple", .base (.str x), kit_ty (by decide +kernel), _, rfl, q H (Same.refl H)⟩
  | lst h _ => exact ⟨_, rfl, _, _, _, _, false, rfl, .ty "tuple", .base (.lst h), kit_ty (by decide +kernel), _, rfl, q H (Same.refl H)⟩
end
end SH

set_option Elab.async false
set_option linter.all false
set_option maxRecDepth 100000
set_option maxHeartbeats 2000000
/-! Errors of one's own whose __init__ says super().__init__(f'..') and keeps its one argument: raw. -/
namespace SH
open PySem PySem.W PySem.Calls PySem.Spec PyProof.Rows PySem.HandSPX
section
variable {prog : Program} {w : World} {A : Around} {E : Value → Shared → Prop} {R : Result → Shared → Prop} {h : Heap} {g : Array GenState} {d : Drawn} {t : Nat} {os : OsState}
open Builtin Builtin.ObjectAttr
/-- the first field stored on an error, whatever built-in it comes of -/
theorem osaB {K : Frag} {name : PySem.Str} {tk : Tok} {v : Value} {x C : Addr} {fv : Array Value} {cd : ClassData}
    (X : K.In h) (hx : h.get? x = some { cls := .ref C, data := .fields fv }) (hcd : clsIn K C = some cd) (some_ : cd.mro.isEmpty = false) (obj : cd.mro.contains (.type "object") = true) (pass : ∀ self : Value, refuseLoop self "__setattr__" cd.mro = pure ()) (hh : cd.hasDict = true) (ha : findIn K (.ref C) name = some none)
    (out : ∀ h' tk' dx, (∀ b o, b ≠ x → h.get? b = some o → h'.get? b = some o) → h.objs.size ≤ dx → dx ≠ x → h'.get? x = some { cls := .ref C, dict := some dx, data := .fields fv } →
      h'.Ns1 dx (fun y => if y = name then some v else none) → R (.ok (.ret .none)) ⟨h', g, d, tk', os⟩) :
    codeAny (model prog w) A (.call (.builtin "object.__setattr__") ⟨[.ref x, .str name tk, v], []⟩) R ⟨h, g, d, t, os⟩ := by
  have I : InstAt h x { cls := .ref C, data := .fields fv } C none := ⟨hx, rfl, rfl, trivial⟩
  have xs : x ≠ h.objs.size := Nat.ne_of_lt (Heap.lt_size hx)
  have S := F.store_object
  have under : Looks (model prog w) h (isInstance (.ref x) (.type "object")) true := I.type.andThen (looks_mroIn X (by unfold mroIn; rw [hcd, Option.bind_some, if_neg (by rw [some_]; decide), obj]))
  have mro : Looks (model prog w) h (mroOf (.ref C)) cd.mro := (looks_clsIn X hcd).andThen .now
  have none_ : Looks (model prog w) h (storeTaker? none) none := .now
  have data : Looks (model prog w) h (classData C) cd := looks_clsIn X hcd
  refine codeAny_call_builtin S.slot.plain S.entry (@check_slot (model prog w) _ _ ⟨h, g, d, t, os⟩ "object.__setattr__" "object" "__setattr__" (.ref x) [.str name tk, v] [] _ S.kind S.split under (S.args (.ref x) (.str name tk) v) ?_)
  rw [osa_eq, refuse_eq]
  refine wpAny_bind (wpAny_bind (I.type.at (wpAny_bind (mro.at ?_))))
  rw [pass]
  refine wpAny_pure (wpAny_bind (I.type.at (wpAny_bind ((looks_findIn X ha).at (wpAny_bind (none_.at ?_))))))
  show wpAny _ _ (storeInOwnDict (.ref x) (.ref C) (.str name tk) name v false) _ _ _
  obtain ⟨_, _, _, _, _, hd, _, _, _, _, _⟩ := cd
  dsimp only at hh
  subst hh
  unfold storeInOwnDict ownDictForStores
  repeat (first | with_reducible refine store_in_new ?_ ?_ | with_reducible refine wpAny_loadPart_at hx ?_ | with_reducible refine data.at ?_ | wp_step)
  · exact ⟨_, #[], _,
      (Heap.get?_update_ne _ _ _ _ xs.symm).trans (Heap.get?_push_at rfl rfl), rfl,
      fun e he => absurd he (by simp), fun _ => rfl⟩
  · intro h' tk' ns same
    have there : (h.push { cls := .type "dict", data := .dict #[] }).get? x = some { cls := .ref C, data := .fields fv } := Heap.get?_push_of_some _ hx
    refine out h' tk' h.objs.size ?_ (Nat.le_refl _) xs.symm ((same.2 x xs).trans (Heap.get?_update_self _ there rfl)) ns
    intro b o hb ho
    exact (same.2 b (Nat.ne_of_lt (Heap.lt_size ho))).trans ((Heap.get?_update_ne _ _ _ _ hb).trans (Heap.get?_push_of_some _ ho))
/-- the bound __init__ of the built-in called: new args, nothing else -/
theorem call_mw {nm q : PySem.Str} {C N : Addr} {bs bm bmB : List Value} {hdct : Bool} {sn : List PySem.Str} {sub : List Value} {ab : Bool} {col : Option Bool} {dd : Option Addr} {k0 k1 k2 k3 k5 : Option Value} {B newId i : String} (FB : ExcBaseFacts B newId i bmB) (lt : i.startsWith "lifetime." = false) {u e t0 : Addr} {rest : List Value} {Q : Value → Shared → Prop}
    (hC : h.get? C = some (excClassObj nm q C N bs bm hdct sn sub ab col dd k0 k1 k2 k3 k5 newId)) (he : h.get? e = some (excO C t0)) (hu : h.get? u = some (kxs_mw i e)) (hz : rest.length ≤ sizeLine)
    (out : ∀ h' t1, (∀ b o, b ≠ e → h.get? b = some o → h'.get? b = some o) → h'.get? e = some (excO C t1) → Q .none ⟨h', g, d, t, os⟩) :
    wpAny (model prog w) A (call (.ref u) rest) Q E ⟨h, g, d, t, os⟩ := by
  refine wpAny_call (codeAny_of_tree ?_)
  show wpAny _ A.in1 (callAny (.ref u) ⟨rest, []⟩) _ _ _
  simp only [callAny]
  refine wpAny_bind (wpAny_load hu ?_)
  simp only [show (Value.type "method-wrapper" == Value.type "method" || Value.type "method-wrapper" == Value.type "builtin_function_or_method" || Value.type "method-wrapper" == Value.type "method-wrapper") = true by decide, if_true]
  refine KFB.if_so (by decide) ?_
  refine wpAny_bind (ESX.check_bound FB hC he rfl ?_)
  refine wpAny_bind (wpAny_pure (wpAny_pure ?_))
  refine ⟨Code.quiet_builtin _ lt, codeAny_builtin FB.initEntry ?_⟩
  rw [Around.under_plainId FB.init.plain _]
  wp_walk
  refine out _ h.objs.size ?_ ?_
  · intro b o hb ho
    rw [Heap.get?_update_other _ _ (Ne.symm hb)]
    exact Heap.get?_push_of_some _ ho
  · rw [Heap.get?_update_self _ (Heap.get?_push_of_some _ he) rfl]
    rfl
/-- what may stand in the f-string -/
def Fmt (v : Value) : Prop := (∃ y t, v = .str y t ∧ y.length ≤ 100000) ∨ ∃ i t, v = .int i t ∧ i.natAbs.log2 < 1920
theorem ldN {M : Model} {s : Shared} {env : Env} {m : PySem.Str → Option Value} {y : PySem.Str} {pos : Pos} {v : Value} {Q : Value → Shared → Prop} (hk : env.scope.kind = .function) (hl : env.kindOf y = some .local) (hn : s.heap.Ns env.locals m) (hv : m y = some v) (hd : (y == ("__debug__" : PySem.Str)) = false) (q : Q v s) : wpAny M A (eval (.Name y pos) env) Q E s := wpAny_Name (wpAny_loadName_local hk hl hn hv q) hd
/-- {f} -/
theorem fmt_any {s : Shared} {env : Env} {m : PySem.Str → Option Value} {f : PySem.Str} {pf pv : Pos} {v : Value} {Q : Value → Shared → Prop} (hk : env.scope.kind = .function) (hl : env.kindOf f = some .local) (hn : s.heap.Ns env.locals m) (hv : m f = some v) (hd : (f == ("__debug__" : PySem.Str)) = false) (hF : Fmt v)
    (q : ∀ (y : PySem.Str) (t tk : Nat), y.length ≤ 100000 → Q (.str y t) { s with toks := tk }) : wpAny (model prog w) A (eval (.FormattedValue (.Name f pf) (-1) none pv) env) Q E s := by
  have hs : sizeLine = 16777216 := by decide
  refine wpAny_FormattedValue_plain (ldN hk hl hn hv hd ?_)
  rcases hF with ⟨y, t, rfl, l⟩ | ⟨i, t, rfl, l⟩
  · exact wpAny_formatField_str (q y t s.toks l) (q y _ _ l) (by omega)
  · refine wpAny_formatField_int l (q _ _ _ ?_)
    have e := int_text_length_le (a := i) (k := 1920) (by decide) l
    rw [PySem.ofString_length]
    omega
/-- f'a{f}' and f'a{f}b' -/
theorem js_any {s : Shared} {env : Env} {m : PySem.Str → Option Value} {f a b : PySem.Str} {j1 j2 : Nat} {pf pv pa pb pos : Pos} {v : Value} {parts : List Expr} {Q : Value → Shared → Prop} (hp : parts = [.Constant (.str a) j1 pa, .FormattedValue (.Name f pf) (-1) none pv] ∨ parts = [.Constant (.str a) j1 pa, .FormattedValue (.Name f pf) (-1) none pv, .Constant (.str b) j2 pb])
    (la : a.length ≤ 1000) (lb : b.length ≤ 1000) (hk : env.scope.kind = .function) (hl : env.kindOf f = some .local) (hn : s.heap.Ns env.locals m) (hv : m f = some v) (hd : (f == ("__debug__" : PySem.Str)) = false) (hF : Fmt v)
    (q : ∀ (y : PySem.Str) (t tk : Nat), Q (.str y t) { s with toks := tk }) : wpAny (model prog w) A (eval (.JoinedStr parts pos) env) Q E s := by
  have hs : sizeLine = 16777216 := by decide
  have e0 : (Str.empty ++ a).length = a.length := by rw [strLen_append]; exact Nat.zero_add _
  have step : ∀ {e : Expr} {es : List Expr}, evalEach (e :: es) env = eval e env :: evalEach es env := fun {e es} => by first | rfl | simp [evalEach]
  have stop : evalEach [] env = [] := by first | rfl | simp [evalEach]
  have add : ∀ x y : PySem.Str, (x ++ y).length = x.length + y.length := fun x y => by rw [strLen_append]
  rcases hp with rfl | rfl
  · refine wpAny_JoinedStr ?_
    rw [step, step, stop]
    refine Calls.Constant_str ⟨a, _, rfl, by omega, ?_⟩
    refine fmt_any (s := { s with toks := _ }) hk hl hn hv hd hF fun y t tk ly => ⟨y, t, rfl, by rw [add]; omega, ?_⟩
    exact ⟨by rw [add]; omega, q _ _ _⟩
  · refine wpAny_JoinedStr ?_
    rw [step, step, step, stop]
    refine Calls.Constant_str ⟨a, _, rfl, by omega, ?_⟩
    refine fmt_any (s := { s with toks := _ }) hk hl hn hv hd hF fun y t tk ly => ⟨y, t, rfl, by rw [add]; omega, ?_⟩
    refine Calls.Constant_str ⟨b, _, rfl, by rw [add, add]; omega, ?_⟩
    exact ⟨by rw [add, add]; omega, q _ _ _⟩
end
end SH

set_option Elab.async false
set_option linter.all false
set_option maxRecDepth 100000
set_option maxHeartbeats 2000000
namespace SH
open PySem PySem.W PySem.Calls PySem.Spec PyProof.Rows PySem.HandSPX
/-! ### the text of such an __init__ -/
def supA (f : PySem.Str) (p1 p2 : Pos) : Arguments := { posonlyargs := [], args := [{ arg := "self", annotation := none, pos := p1 }, { arg := f, annotation := none, pos := p2 }], vararg := none, kwonlyargs := [], kw_defaults := [], kwarg := none, defaults := [] }
def supB (f : PySem.Str) (js : List Expr) (p0 p1 p2 p3 p4 p5 q1 q2 q3 q4 : Pos) : List Stmt :=
  [.Expr (.Call (.Attribute (.Call (.Name "super" p0) [] [] p1) "__init__" p2) [.JoinedStr js p3] [] p4) p5, .Assign [.Attribute (.Name "self" q1) f q2] (.Name f q3) q4]
def supS (f : PySem.Str) : Scope := { kind := .function, names := [(PySem.Str.ofString "self", .local), (f, .local), (PySem.Str.ofString "__class__", .free), (PySem.Str.ofString "super", .globalImplicit)], isGenerator := false, isCoroutine := false, more := [] }
/-- what the written part says of such a class, at C, and of its __init__, at fI; B the built-in that it comes of -/
structure SupC (prog : Program) (K : Frag) (mg : PySem.Str → Option Value) (x f : PySem.Str) (C fI : Addr) (B newId i : String) (bmB : List Value) : Prop where
  gC : mg x = some (.ref C)
  FB : ExcBaseFacts B newId i bmB
  KF : KxsFacts B i
  lt : i.startsWith "lifetime." = false
  cls : ∃ nm q N bs bm sn sub ab col dd k0 k1 k2 k3 k5, K.lookup C = some (excClassObj nm q C N bs bm true sn sub ab col dd k0 k1 k2 k3 k5 newId) ∧ (∀ X : String, bm.contains (.type X) = bmB.contains (.type X)) ∧ (∀ self : Value, refuseLoop self "__setattr__" bm = pure ()) ∧ alongIn K "__init__" bm = some (some (.builtin i)) ∧ bm.contains (.type "object") = true
  sa : findIn K (.ref C) "__setattr__" = some (some (.builtin "object.__setattr__"))
  noF : findIn K (.ref C) f = some none
  iC : findIn K (.ref C) "__init__" = some (some (.ref fI))
  tC : typeIn K (.ref fI) = some (.type "function")
  kC : keepIn K (.ref C) = true
  exC : subIn K (.ref C) (.type "BaseException") = some true
  tyC : typeIn K (.ref C) = some (.type "type")
  hB : subIn K (.ref C) (.type B) = some true
  op : nsIn K cStatics "thirdparty.any" = some none
  sup : mg "super" = none
  top : (prog.main.scope.names.lookup ("super" : PySem.Str)).isSome = false
  self : (f == ("self" : PySem.Str)) = false
  dbg : (f == ("__debug__" : PySem.Str)) = false
  n3 : (supS f).names.lookup ("super" : PySem.Str) = some .globalImplicit
  n4 : (supS f).names.lookup ("__class__" : PySem.Str) = some .free
  fn : ∃ (oc : Value) (od : Option Addr) (dV kV doc pm : Value) (an : Option Addr) (cda : Addr) (ct : Value) (osl : Array (Option Value)) (cc : Addr) (q : PySem.Str) (js : List Expr) (p1 p2 r0 r1 r2 r3 r4 r5 q1 q2 q3 q4 : Pos),
    K.lookup fI = some ⟨oc, od, .func (ksFn "__init__" q (supA f p1 p2) (supB f js r0 r1 r2 r3 r4 r5 q1 q2 q3 q4) (supS f) dV kV doc pm an (.ref cda) ct cc), osl⟩ ∧ codeIn K (.ref cda) q = true ∧ (r2.endLine == r4.line) = true ∧ (∀ u v : Value, bindArgs (ksFn "__init__" q (supA f p1 p2) (supB f js r0 r1 r2 r3 r4 r5 q1 q2 q3 q4) (supS f) dV kV doc pm an (.ref cda) ct cc) ⟨[u, v], []⟩ = pure [(PySem.Str.ofString "self", u), (f, v)]) ∧
    (∃ (ccl : Value) (cdd : Option Addr) (vs : Array Value) (ccs : Array (Option Value)) (file : PySem.Str) (tf : Tok), K.lookup cda = some ⟨ccl, cdd, .fields vs, ccs⟩ ∧ vs[2]? = some (.str file tf) ∧ ((prog.main.file : PySem.Str) == file) = true) ∧
    (∃ (cl : Value) (cld : Option Addr) (csl : Array (Option Value)), K.lookup cc = some ⟨cl, cld, .cell (some (.ref C)), csl⟩) ∧
    ∃ (a b : PySem.Str) (j1 j2 : Nat) (pf pv pa pb : Pos), a.length ≤ 1000 ∧ b.length ≤ 1000 ∧ (js = [.Constant (.str a) j1 pa, .FormattedValue (.Name f pf) (-1) none pv] ∨ js = [.Constant (.str a) j1 pa, .FormattedValue (.Name f pf) (-1) none pv, .Constant (.str b) j2 pb])
/-- what __init__ leaves of a fresh error at x -/
structure SupEnd (h h' : Heap) (x C dx t1 : Addr) (f : PySem.Str) (v : Value) : Prop where
  keep : ∀ b o, b ≠ x → h.get? b = some o → h'.get? b = some o
  obj : h'.get? x = some { cls := .ref C, dict := some dx, data := .fields #[.ref t1, .none, .none, .none, .bool false, .none] }
  dbig : h.objs.size ≤ dx
  dne : dx ≠ x
  ns : h'.Ns1 dx (fun y => if y = f then some v else none)
section
variable {prog : Program} {w : World} {A : Around} {E : Value → Shared → Prop} {R : Result → Shared → Prop} {s : Shared} {K : Frag} {mg mb : PySem.Str → Option Value} {x f : PySem.Str} {C fI : Addr} {B newId i : String} {bmB : List Value}
theorem sup_init (T : SupC prog K mg x f C fI B newId i bmB) {e t0 : Addr} {v : Value} (X : K.In s.heap) (gl : s.heap.Ns mainGlobals mg) (bl : s.heap.Ns builtinsNs mb) (boot : mb "super" = some (.type "super")) (lim : s.heap.NoLimit) (he : s.heap.get? e = some (excO C t0)) (new : K.lookup e = none) (hF : Fmt v) (room : A.depth < recursionLimit)
    (out : ∀ h' tk dx t1, SupEnd s.heap h' e C dx t1 f v → R (.ok (.ret .none)) { s with heap := h', toks := tk }) : codeAny (model prog w) A (.call (.ref fI) ⟨[.ref e, v], []⟩) R s := by
  obtain ⟨oc, od, dV, kV, doc, pm, an, cda, ct, osl, cc, q, js, p1, p2, r0, r1, r2, r3, r4, r5, q1, q2, q3, q4, lk, hcd, hline, hbind, ⟨ccl, cdd, vs, ccs, file, tf, lc, hvs, hfile⟩, ⟨cl, cld, csl, lcell⟩, a, b, j1, j2, pf, pv, pa, pb, la, lb, hjs⟩ := T.fn
  obtain ⟨nm, qn, N, bs, bm, sn, sub, ab, col, dd, k0, k1, k2, k3, k5, lC, hT, pass, along, obj⟩ := T.cls
  have hcl : clsIn K C = some { name := nm, bases := bs, mro := .ref C :: bm, ns := N, qualname := qn, hasDict := true, slotNames := sn, subclasses := sub, abstract := ab, collection := col, hasDel := false } := by unfold clsIn; rw [lC] <;> rfl
  have l1 : (supS f).names.lookup ("self" : PySem.Str) = some .local := by simp [supS, List.lookup]
  have l2 : (supS f).names.lookup f = some .local := by
    simp only [supS, List.lookup, T.self]
    simp
  refine ks_codeAny_call_defAt (fd := ksFn "__init__" q (supA f p1 p2) (supB f js r0 r1 r2 r3 r4 r5 q1 q2 q3 q4) (supS f) dV kV doc pm an (.ref cda) ct cc) (binds := [(PySem.Str.ofString "self", .ref e), (f, v)]) room (X _ _ lk) rfl lim (codeRec_of X hcd) rfl (BindsTo.of_eq (hbind _ _)) ?_ ?_ (fun h₁ ns k => ?_)
  · intro y hy
    simp [supS] at hy
    rcases hy with rfl | rfl | rfl | rfl <;> (intro z; cases z)
  · intro y hy
    simp at hy
    rcases hy with rfl | rfl
    · exact l1
    · exact l2
  have hn : h₁.Ns s.heap.objs.size (fun y => [(f, v), (PySem.Str.ofString "self", Value.ref e)].lookup y) := ns
  have v1 : [(f, v), (PySem.Str.ofString "self", Value.ref e)].lookup f = some v := by simp [List.lookup]
  have v2 : [(f, v), (PySem.Str.ofString "self", Value.ref e)].lookup (PySem.Str.ofString "self") = some (Value.ref e) := by
    have : (PySem.Str.ofString "self" == f) = false := by
      have z := T.self
      rw [beq_eq_false_iff_ne] at z ⊢
      exact fun y => z y.symm
    simp [List.lookup, this]
  have X₁ : K.In h₁ := X.keeps k
  have he₁ := k _ _ he
  have nL : s.heap.objs.size ≠ e := Nat.ne_of_gt (Heap.lt_size he)
  obtain ⟨hp, g, d, t, os⟩ := s
  dsimp only at *
  show _root_.PySem.wpAt _ _ _ (execs (supB f js r0 r1 r2 r3 r4 r5 q1 q2 q3 q4) _) _ _ _
  unfold supB
  refine ks_wpAt_execs_cons (ks_wpAt_Expr_any (ks_wpAt_MethodCall (pl := pure false) ?_ (by
    rw [arm_eval_Call]
    unfold methodCall methodCallPos
    rw [hline]
    simp only [Bool.or_true, if_true, pure_bind]
    rfl)))
  refine ks_wpAt_super_base T.n3 T.n4 (by decide) rfl (X₁ _ _ lk) rfl rfl rfl (X₁ _ _ lc) rfl hvs hfile T.top ?_
  refine ks_loadName_global rfl T.n3 (loadGlobal_builtin (gl.keeps k) T.sup (bl.keeps k) boot ⟨rfl, ?_⟩)
  refine wpAny_loadName_free rfl T.n4 rfl ⟨_, X₁ _ _ lcell, rfl⟩ ?_
  refine wpAny_loadName_local rfl l1 hn v2 ?_
  have oC := X₁ _ _ lC
  refine ks_wpAny_isType_cls oC rfl ⟨rfl, ?_⟩
  have hself : mroIn K C (.ref C) = some true := by
    unfold mroIn
    rw [hcl]
    simp
  have eC : e ≠ C := fun z => by
    rw [z, lC] at new
    cases new
  refine ks_wpAny_call_super oC rfl he₁ rfl (fun c z => by cases z) (looks_mroIn X₁ hself) (fun h₂ so k₂ => ?_)
  have X₂ : K.In h₂ := X₁.keeps k₂
  have he₂ := k₂ _ _ he₁
  have I₂ : InstAt h₂ e (excO C t0) C none := ⟨he₂, rfl, rfl, trivial⟩
  have mro₂ : Looks (model prog w) h₂ (mroOf (.ref C)) (.ref C :: bm) := (looks_clsIn X₂ hcl).andThen .now
  refine kxs_getMethod T.KF so (looks_opaque X₂ T.op) mro₂ (ESX.drop_own C bm) X₂ along (I₂.type.andThen (looks_subIn X₂ T.hB)) eC (by decide) ?_
  -- the text, and the call
  have k₃ : ∀ b o, h₂.get? b = some o → (h₂.push (kxs_mw i e)).get? b = some o := fun b o z => Heap.get?_push_of_some _ z
  have hu : (h₂.push (kxs_mw i e)).get? h₂.objs.size = some (kxs_mw i e) := Heap.get?_push_at rfl rfl
  refine kxs_callWith (i := i) (x := e) (by rfl) ?_
  refine evalArgs_plain ?_
  refine Calls.spliced_cons ?_
  refine js_any (pos := r3) (f := f) (v := v) (m := fun y => [(f, v), (PySem.Str.ofString "self", Value.ref e)].lookup y) hjs la lb (by rfl) (by exact l2) (hn.keeps fun b o z => k₃ b o (k₂ b o z)) v1 T.dbg hF fun y ty tk => ?_
  refine Calls.spliced_nil ⟨hu, ?_⟩
  refine call_mw T.FB T.lt (k₃ _ _ (k₂ _ _ oC)) (k₃ _ _ he₂) hu (by show 1 ≤ sizeLine; decide) fun h₄ t1 k₄ he₄ => ?_
  -- self.f = f
  have k14 : ∀ b o, b ≠ e → h₁.get? b = some o → h₄.get? b = some o := fun b o ne z => k₄ b o ne (k₃ b o (k₂ b o z))
  have X₄ : K.In h₄ := fun b o z => k14 b o (fun y => by rw [y, new] at z; cases z) (X₁ b o z)
  have hn₄ : h₄.Ns hp.objs.size (fun y => [(f, v), (PySem.Str.ofString "self", Value.ref e)].lookup y) := by
    obtain ⟨o, es, ep, z, zd, zr⟩ := hn
    exact ⟨o, es, ep, k14 _ _ nL z, zd, zr⟩
  refine ks_wpAt_execs_cons (ks_wpAt_Assign_Attr (wpAt_of_wpAny ?_))
  refine ldN (by rfl) (by exact l2) hn₄ v1 T.dbg ?_
  refine ldN (by rfl) (by exact l1) hn₄ v2 (by decide) ?_
  refine set_plain X₄ (ox := excO C t1) (od := none) ⟨he₄, rfl, rfl, trivial⟩ T.sa ?_
  refine osaB X₄ he₄ hcl rfl (by show (Value.ref C :: bm).contains (.type "object") = true; rw [List.contains_cons, obj, Bool.or_true]) (fun self => by rw [refuseLoop_ref]; exact pass self) rfl T.noF (fun h₅ tk₅ dx k₅ dn dne hx₅ hn₅ => ?_)
  refine wpAt_of_wpAny (wpAny_execs_nil ?_)
  have z := hn₄.lt
  have z' : hp.objs.size ≤ dx := Nat.le_trans (Nat.le_of_lt z) dn
  exact out h₅ tk₅ dx t1 ⟨fun b o ne y => k₅ b o ne (k14 b o ne (k b o y)), hx₅, z', dne, hn₅⟩
/-- a made error of this kind -/
structure SupMade (h h' : Heap) (e C d : Addr) (f : PySem.Str) (v : Value) : Prop where
  keep : ∀ b o, h.get? b = some o → h'.get? b = some o
  new : h.objs.size ≤ e
  obj : ∃ oe vs, h'.get? e = some oe ∧ oe.cls = .ref C ∧ oe.dict = some d ∧ oe.data = .fields vs ∧ vs[1]? = some .none
  dbig : h.objs.size ≤ d
  dne : d ≠ e
  ns : h'.Ns1 d (fun y => if y = f then some v else none)
theorem sup_made (T : SupC prog K mg x f C fI B newId i bmB) {v : Value} (X : K.In s.heap) (gl : s.heap.Ns mainGlobals mg) (bl : s.heap.Ns builtinsNs mb) (boot : mb "super" = some (.type "super")) (lim : s.heap.NoLimit) (hF : Fmt v) (room : A.depth + 1 < recursionLimit)
    (out : ∀ h' tk e d, SupMade s.heap h' e C d f v → R (.ok (.ret (.ref e))) { s with heap := h', toks := tk }) : codeAny (model prog w) A (.call (.ref C) ⟨[v], []⟩) R s := by
  obtain ⟨nm, qn, N, bs, bm, sn, sub, ab, col, dd, k0, k1, k2, k3, k5, lC, hT, pass, along, obj⟩ := T.cls
  obtain ⟨hp, g, dr, tk, os⟩ := s
  have kk : ∀ b o, hp.get? b = some o → ((hp.push (kdv_tup [v])).push (excO C hp.objs.size)).get? b = some o := fun b o z => Heap.get?_push_of_some _ (Heap.get?_push_of_some _ z)
  have there : ((hp.push (kdv_tup [v])).push (excO C hp.objs.size)).get? (hp.objs.size + 1) = some (excO C hp.objs.size) := by heap_get
  have fresh : K.lookup (hp.objs.size + 1) = none := by
    cases z : K.lookup (hp.objs.size + 1) with
    | none => rfl
    | some o =>
      have y : hp.objs.size + 1 < hp.objs.size := Heap.lt_size (X _ _ z)
      exact absurd (Nat.lt_of_succ_lt y) (Nat.lt_irrefl _)
  refine call_own T.FB hT (X _ _ lC) (looks_findIn X T.iC) (fun self => bind_fn X self T.tC) (by show 1 ≤ sizeLine; decide) ?_
  refine sup_init (s := ⟨(hp.push (kdv_tup [v])).push (excO C hp.objs.size), g, dr, tk, os⟩) T (X.keeps kk) (gl.keeps kk) (bl.keeps kk) boot (lim.keeps kk) there fresh hF room fun h' tk' dx t1 D => ?_
  have big : hp.objs.size + 1 + 1 ≤ dx := by
    have y := D.dbig
    rw [Heap.size_push, Heap.size_push] at y
    exact y
  refine ⟨rfl, out h' tk' (hp.objs.size + 1) dx ⟨fun b o y => D.keep b o (Nat.ne_of_lt (Nat.lt_succ_of_lt (Heap.lt_size y))) (kk b o y), Nat.le_succ _, ⟨_, _, D.obj, rfl, rfl, rfl, rfl⟩, ?_, D.dne, D.ns⟩⟩
  show hp.objs.size ≤ dx
  omega
end
end SH

set_option Elab.async false
set_option linter.all false
set_option maxRecDepth 100000
set_option maxHeartbeats 2000000
/-! raise X(e), X such an error, as a rule. -/
namespace SH
open PySem PySem.Spec PyProof.Rows L2
/-- what may be told in its text -/
def FmtV (v : V) : Prop := (∃ y : PySem.Str, v = .str y ∧ y.length ≤ 100000) ∨ ∃ i : Int, v = .int i ∧ i.natAbs.log2 < 1920
theorem FmtV.fmt {v : V} {u : Value} (h : FmtV v) (r : RelV v u) : Fmt u := by
  rcases h with ⟨y, rfl, l⟩ | ⟨i, rfl, l⟩
  · obtain ⟨t, rfl⟩ := r
    exact .inl ⟨y, t, rfl, l⟩
  · obtain ⟨t, rfl⟩ := r
    exact .inr ⟨i, t, rfl, l⟩
section
variable {X : Cx} {x f : PySem.Str} {C fI : Addr} {B newId i : String} {bmB : List Value}
/-- X(e) -/
def tMkS (C : Addr) (f : PySem.Str) (ta : TA) : L2.St → Hp → XK → Prop := fun σ H Q => ta σ H fun vs H1 => ∃ v, vs = [v] ∧ FmtV v ∧ ∀ d, H1 d = none → Q (.ref C) (some d) (upd H1 d (.xd [(f, v)]))
theorem pmk_sup {a : Expr} {ta : TA} {p pos : Pos} {k : Nat} (T : SupC X.prog X.K X.mg x f C fI B newId i bmB) (hr : Room k X.A) (ha : PA X [a] ta) (hg : Gl X x) (hdb : (x == ("__debug__" : PySem.Str)) = false := by decide)
    (he : starEach (a :: []) X.env = (false, eval a X.env) :: starEach [] X.env := by rfl) (hpl : (backTo pos (starEach [] X.env)).any (·.1) = false := by rfl) :
    PMk X (.Call (.Name x p) [a] [] pos) (tMkS C f ta) := by
  intro pins s σ H Q I h
  refine wpAny_Call_Name_kw (ld_glob I hg T.gC ?_ hdb)
  refine PySem.W.callWith_K (h₀ := X.base) I.ok.mod.kin T.kC (thn (ha.run pos pins s σ H _ I h) ?_) he hpl
  rintro us s1 ⟨vs, H1, I1, r1, v, rfl, fv, q1⟩
  refine ⟨I1.kIn, ?_⟩
  obtain ⟨u, rfl, ru⟩ := vals1 r1
  show wpAny _ _ (call (.ref C) [u]) _ _ _
  have lim := I1.nolimit
  have gl := I1.ok.mod.glob.keeps I1.bk
  obtain ⟨mb, bl0, boot⟩ := I1.ok.mod.blt
  have bl := bl0.keeps I1.bk
  have sup : mb "super" = some (.type "super") := (boot _ (by decide)).trans (by decide +kernel)
  have kIn := I1.kIn
  obtain ⟨hp, g, dr, tk, os⟩ := s1
  refine wpAny_call (sup_made T kIn gl bl sup lim (fv.fmt ru) (by have := hr.dp; omega) fun h' tk' e d M => ?_)
  show MkP X pins σ Q (.ref e) ⟨h', g, dr, tk', os⟩
  obtain ⟨oe, vs, hoe, hc, hd, hdat, h1⟩ := M.obj
  have hns := M.ns
  -- all but the error itself
  obtain ⟨G', g1, g2⟩ := restrict h' fun b => decide (b ≠ e)
  have same : ∀ b, b ≠ e → G'.get? b = h'.get? b := fun b hb => g1 b (decide_eq_true hb)
  have gone : G'.get? e = none := g2 e (by simp)
  have old : ∀ b o, hp.get? b = some o → G'.get? b = some o := fun b o z => (same b (Nat.ne_of_lt (Nat.lt_of_lt_of_le (Heap.lt_size z) M.new))).trans (M.keep b o z)
  have ob : ObjOk X.prog X.w (upd H1 d (.xd [(f, v)])) G' d (.xd [(f, v)]) := ⟨_, hns.at (fun o z => (same d M.dne).trans z), relO_put (fs := []) ru fun _ => True.intro⟩
  have J : L2.Inv X pins σ (upd H1 d (.xd [(f, v)])) ⟨G', g, dr, tk', os⟩ := I1.laid (t' := tk') old M.dbig ob
  refine ⟨e, oe, vs, ⟨G', g, dr, tk', os⟩, _, .ref C, some d, rfl, J, ?_, gone, hoe, ⟨hc, hd⟩, hdat, h1, ?_, rfl, I1.bare, raises_own T.exC T.tyC, q1 d (I1.hok.fresh M.dbig)⟩
  · intro b o z
    by_cases hb : b = e
    · rw [hb] at z
      have z' : G'.get? e = some o := z
      rw [gone] at z'
      cases z'
    · exact (same b hb).symm.trans z
  · rw [upd_ne (Ne.symm M.dne)]
    exact I1.hok.fresh M.new
/-- raise X(e) -/
def tRaiseS (C : Addr) (f : PySem.Str) (W : WX) (ta : TA) : TS := fun _ σ H => tMkS C f ta σ H fun cls d H' => W cls d σ H'
theorem ps_raiseS {a : Expr} {ta : TA} {W : WX} {p pos pos2 : Pos} {k : Nat} (hc : X.calm = true) (T : SupC X.prog X.K X.mg x f C fI B newId i bmB) (hr : Room k X.A) (tk : Takes X W) (ha : PA X [a] ta) (hg : Gl X x) (hdb : (x == ("__debug__" : PySem.Str)) = false := by decide)
    (he : starEach (a :: []) X.env = (false, eval a X.env) :: starEach [] X.env := by rfl) (hpl : (backTo pos (starEach [] X.env)).any (·.1) = false := by rfl) :
    PS X (.Raise (some (.Call (.Name x p) [a] [] pos)) none pos2) (tRaiseS C f W ta) := ps_raise hc tk (pmk_sup T hr ha hg hdb he hpl)
end
end SH

set_option Elab.async false
set_option linter.all false
set_option maxRecDepth 100000
set_option maxHeartbeats 2000000
/-! Defs that are handed a caught error, within an except suite; isinstance of it there. -/
namespace SH
open PySem PySem.Spec PyProof.Rows L2
/-- a def's promise where p's object, an error, stands in the state and may be handed -/
structure FnE (P : Program) (w : World) (K : PySem.W.Frag) (mg : PySem.Str → Option Value) (base : Heap) (k : Nat) (f : Addr) (fd : FuncData) (ps : List PySem.Str) (sp : Addr → Value → Option Addr → Sp) : Prop where
  len : ∀ a cls d vs H Q E, sp a cls d vs H Q E → vs.length = ps.length
  run : ∀ (A : Around) (outer : List Env) (s : Shared) (H : Hp) (args : Args) (us : List Value) (vs : List V) (Q : VK) (E : XK) (p : Addr × Obj) (cls : Value) (d : Option Addr), L2H.RoomH k A → L2H.PinOk outer H s p → Zc cls d p.2 → (∃ vs, p.2.data = .fields vs) → Env0 P w K mg base A outer s H →
    BindsTo s fd args (ps.zip us) → Vals vs us → sp p.1 cls d vs H Q E → codeAny (model P w) A (.call (.ref f) args) (CR CX0 outer P w H s Q E) s
section
variable {P : Program} {w : World} {K : PySem.W.Frag} {mg : PySem.Str → Option Value} {base : Heap}
theorem okE {x qual : PySem.Str} {st : Stmt} {f : Addr} {fd : FuncData} {N ps : List PySem.Str} {k : Nat} {sp : Addr → Value → Option Addr → Sp} (F : Fun K x qual st f fd) (S : FnScope N ps (defScope st)) (len : ∀ a cls d vs H Q E, sp a cls d vs H Q E → vs.length = ps.length)
    (body : ∀ (cdv : Value) (A : Around) (outer : List Env) (s : Shared) (H : Hp) (vs : List V) (Q : VK) (E : XK) (p : Addr × Obj) (cls : Value) (d : Option Addr), Zc cls d p.2 → (∃ vs, p.2.data = .fields vs) → L2H.RoomH k (A.deeper (envOfC qual (defScope st) s.heap.objs.size f cdv)) → sp p.1 cls d vs H Q E →
      ∃ t, PSs (L2H.cxH CX0 P w K mg base N qual (defScope st) f cdv A outer s H E p) (defBody st) t ∧ t { nx := fun _ H' => Q .non H', rt := Q } (start N vs) H) : FnE P w K mg base (k + 1) f fd ps sp := by
  obtain ⟨oc, od, kV, doc, pm, an, cdv, ct, osl, rfl, look, code⟩ := F.ex
  refine ⟨len, ?_⟩
  intro A outer s H args us vs Q E p cls d room pin hz hf env bind rel want
  have many := len _ _ _ _ _ _ _ want
  have still : ∀ b o, base.get? b = some o → s.heap.get? b = some o := fun b o e => (env.bs b o e).1
  have inK := env.mod.kin.keeps still
  refine codeAny_call_function room.depth (inK _ _ look) rfl S.co S.gen rfl (PySem.W.codeRec_of inK code) (bind _ _ _ _ ?_)
  refine wpAny_newFunctionEnv_cells S.kind ?_ fun env' he s1 made => ?_
  · rintro ⟨n, v⟩ hy
    cases S.par n (List.of_mem_zip hy).1 with
    | inl q => exact .inl q
    | inr q => exact .inr ⟨q, PySem.W.cellsFrom_some _ _ _ (.inl q)⟩
  subst he
  refine ⟨(env.mod.nolimit.keeps still).keeps made.toInCall.keep, codeAny_func ?_⟩
  obtain ⟨t, ht, hq⟩ := body cdv A outer s H vs Q E p cls d hz hf (room.deeper _) want
  have begun : L2.Inv (L2H.cxH CX0 P w K mg base N qual (defScope st) f cdv A outer s H E p) [] (start N vs) H s1 := L2H.inv_startH S pin env many rel made
  refine wpAny_mono (ht.run [] s1 _ H _ begun hq) (fun fl s' out => ?_) fun _ _ out => out
  cases fl with
  | ret u => exact let ⟨v, _, H', J, rv, q⟩ := out; ⟨v, H', J.os, J.bare, J.base, J.hok, rv, q⟩
  | next => exact let ⟨_, H', J, q⟩ := out; ⟨V.non, H', J.os, J.bare, J.base, J.hok, rfl, q⟩
  | brk => exact (let ⟨_, _, _, q⟩ := out; False.elim q)
  | cont => exact (let ⟨_, _, _, q⟩ := out; False.elim q)
end
section
variable {X : Cx}
/-- f(e, ..) in a suite that holds the error at a -/
theorem pe_callE {k : Nat} {a : Addr} {oe : Obj} {pn : List (Addr × Obj)} {f : Addr} {fd : FuncData} {ps : List PySem.Str} {sp : Addr → Value → Option Addr → Sp} {cls : Value} {d : Option Addr} (hz : Zc cls d oe) (hf : ∃ vs, oe.data = .fields vs) {x : PySem.Str} {p pos : Pos} {e : Expr} {es : List Expr} {t : TA} (F : FnE X.prog X.w X.K X.mg X.base k f fd ps sp) (hr : L2H.RoomH k (X.suite a ((a, oe) :: pn)).A) (hg : Gl (X.suite a ((a, oe) :: pn)) x) (hm : X.mg x = some (.ref f)) (hk : PySem.W.keepIn X.K (.ref f) = true) (hb : Binds X.K fd ps [])
    (ha : PA (X.suite a ((a, oe) :: pn)) (e :: es) t) (hdb : (x == ("__debug__" : PySem.Str)) = false := by decide) (he : starEach (e :: es) X.env = (false, eval e X.env) :: starEach es X.env := by rfl) (hpl : (backTo pos (starEach es X.env)).any (·.1) = false := by rfl) :
    PE (X.suite a ((a, oe) :: pn)) (.Call (.Name x p) (e :: es) [] pos) (tCall (sp a cls d) [] E0 t) := by
  constructor
  intro pins s σ H Q I h
  refine wpAny_Call_Name_kw (ld_glob I hg hm ?_ hdb)
  refine PySem.W.callWith_K (h₀ := X.base) I.ok.mod.kin hk (thn (ha.run pos pins s σ H _ I h) ?_) he hpl
  rintro us s1 ⟨vs, H1, I1, r, q⟩
  rw [List.append_nil] at q
  have P1 := I1.pin (a, oe) (List.mem_append_left _ List.mem_cons_self)
  have pin : L2H.PinOk (X.suite a ((a, oe) :: pn)).stack H1 s1 (a, oe) := ⟨P1.1, P1.2.1, fun hm => (List.mem_cons.mp (I1.stkSub a hm)).elim P1.2.2.1 P1.2.2.2.1, P1.2.2.2.2⟩
  refine ⟨I1.kIn, wpAny_call (codeAny_mono (F.run _ _ s1 H1 ⟨us, []⟩ us vs Q E0 (a, oe) cls d hr pin hz hf I1.env0 ?_ r q) fun r' s' hq => ?_)⟩
  · have := hb s1 us I1.kIn (by rw [List.append_nil, ← r.length]; exact F.len _ _ _ _ _ _ _ q)
    rwa [List.append_nil] at this
  · cases r' with
    | error e => exact False.elim hq
    | ok fl =>
      cases fl with
      | ret u => exact I1.after hq
      | next => exact False.elim hq
      | brk => exact False.elim hq
      | cont => exact False.elim hq
/-- what the class of an error says, so that isinstance looks at it rightly -/
structure ErC (K : PySem.W.Frag) (D : Addr) : Prop where
  cl : (PySem.W.clsIn K D).isSome = true
  hg : PySem.W.findIn K (.ref D) "__getattribute__" = some (some (.builtin "BaseException.__getattribute__"))
  hk : PySem.W.findIn K (.ref D) "__getattr__" = some none
  hs : PySem.W.subIn K (.ref D) (.type "BaseException") = some true
  ha : PySem.W.findIn K (.ref D) "__class__" = some (some (.builtin "object.__class__"))
  hn : PySem.W.specialIn K (.builtin "object.__class__") "__get__" = some (some (.builtin "getset_descriptor.__get__"))
  ht : PySem.W.takesIn K (.builtin "object.__class__") = some true
  hm : PySem.W.mroIn K D (.type "object") = some true
/-- isinstance(e, c), e a pinned error of the class at D, its dict at dd -/
def rIsP (K : PySem.W.Frag) (D a dd : Addr) : List V → Hp → VK → Prop := fun xs H Q => ∃ (c : V) (cv : Value) (b : Bool) (fs : List (PySem.Str × V)), xs = [.ref a, c] ∧ (∀ u, RelV c u → u = cv) ∧ H dd = some (.xd fs) ∧ PySem.W.kitOne K (.ref D) cv = some b ∧ Q (.bl b) H
theorem call_isP {a D dd : Addr} {oe : Obj} (C : ErC X.K D) (hz : Zc (.ref D) (some dd) oe) (hf : ∃ vs, oe.data = .fields vs) (hp : (a, oe) ∈ X.pn) : CallR X (.builtin "isinstance") (rIsP X.K D a dd) := by
  intro pins s σ H xs us Q I r h
  obtain ⟨c, cv, b, fs, rfl, hcv, hd, e, q⟩ := h
  cases r with
  | cons rx rr =>
    cases rr with
    | cons rt rr =>
      cases rr
      cases rx
      have ec := hcv _ rt
      subst ec
      obtain ⟨hget, _⟩ := I.pin (a, oe) (List.mem_append.mpr (.inl hp))
      obtain ⟨mA, hns, _⟩ := (show ObjOk X.prog X.w H s.heap dd (.xd fs) from I.hok dd _ hd)
      obtain ⟨od, ho, _⟩ := lookIn_ns hns
      obtain ⟨vs, hv⟩ := hf
      have J : PySem.W.InstAt s.heap a oe D (some od) := ⟨hget, hz.1, by unfold PySem.W.notCls; rw [hv] <;> rfl, by rw [hz.2]; exact ho⟩
      exact PySem.W.kia_one (PySem.W.kitx_exc C.cl C.hg C.hk C.hs C.ha C.hn C.ht C.hm) I.kIn J e (fun z => nomatch z) fun tk => ⟨.bl b, H, I.kept (t' := tk) fun _ _ z => z, rfl, q⟩
/-- o.m(e, ..), what it raises wished for at the caller's slots -/
def tMethX (C : Addr) (m : PySem.Str) (sp : Sp) (E : L2.St → XK) (ta : TE) (t : TA) : TE := fun σ H Q => ta σ H fun x H1 => ∃ a dx fs, x = .ref a ∧ H1 a = some (.ins C dx fs) ∧ fs.lookup m = none ∧ t σ H1 fun vs H2 => sp (x :: vs) H2 Q (E σ)
theorem pe_methX {CX : CXT} {k : Nat} {f C : Addr} {fd : FuncData} {ps : List PySem.Str} {sp : Sp} {E : L2.St → XK} {m : PySem.Str} {pos apos : Pos} {e o : Expr} {es : List Expr} {ta : TE} {t : TA} {pl : Sem Bool} (he : PE X o ta) (c : Cls X.K C) (hm : Meth X.K C m f) (F : FnOk X.prog X.w X.K X.mg X.base CX k f fd ps sp) (hr : Room k X.A) (hb : Binds X.K fd ps []) (hx : ∀ σ, PassesAt CX X σ (E σ)) (ha : PA X (e :: es) t)
    (hst : starEach (e :: es) X.env = (false, eval e X.env) :: starEach es X.env := by rfl) (hpl : (backTo pos (starEach es X.env)).any (·.1) = false := by rfl)
    (ht : eval (.Call (.Attribute o m apos) (e :: es) [] pos) X.env = (do
      let ov ← eval o X.env
      standAt apos.atName
      let (f, first) ← holding [ov] (getMethod ov m pl)
      callWith pos f first (backTo pos (starEach (e :: es) X.env)) (backToKw pos (keywordEach [] X.env))) := by rfl) :
    PE X (.Call (.Attribute o m apos) (e :: es) [] pos) (tMethX C m sp E ta t) := by
  constructor
  intro pins s σ H Q I h
  refine PySem.W.methodCall_KW (pl := pl) (thn (he.run pins s σ H _ I h) ?_) ht
  rintro u s1 ⟨x, H1, I1, rx, a, dx, fs, rfl, ea, l, q⟩
  obtain rfl : u = Value.ref a := rx
  refine getmeth_ok I1 ea c hm l (PySem.W.callWith_K (first := [.ref a]) (h₀ := X.base) I.ok.mod.kin hm.kp (thn (ha.run pos pins s1 σ H1 _ I1 q) ?_) hst hpl)
  rintro us s2 ⟨vs, H2, I2, r, q2⟩
  exact ⟨I2.kIn, run_fnS (us := .ref a :: us) (vs := .ref a :: vs) F hr hb (hx σ) I2 (.cons rfl r) q2⟩
/-- xs.count(y), flat things -/
def rCntF (K : PySem.W.Frag) : V → List V → Hp → VK → Prop := fun x xs H Q => ∃ (a : Addr) (ys : List V) (y : V), x = .ref a ∧ xs = [y] ∧ SqL K H a ys ∧ flatV y = true ∧ ys.all flatV = true ∧ Q (.int (ys.countP (fun z => eqV z y) : Nat)) H
theorem countU {y : V} : ∀ {ys : List V} {its : List Value}, Vals ys its → ys.all flatV = true → its.countP (eqU y) = ys.countP fun z => eqV z y
  | _, _, .nil, _ => rfl
  | _, _, .cons r rs, h => by
    rw [List.all_cons, Bool.and_eq_true] at h
    rw [List.countP_cons, List.countP_cons, countU rs h.2, eqU_of r h.1]
theorem mt_countF : MtR X "list.count" (rCntF X.K) := by
  intro pins s σ H x xs v us Q I rx rxs h
  obtain ⟨a, ys, y, rfl, rfl, hs, fy, fys, q⟩ := h
  cases rx
  obtain ⟨u, rfl, ru⟩ := rxs.one
  obtain ⟨its, rv, ⟨⟨cls, dd, data, sl⟩, n, ho, hc, hdn, hd⟩, hlen⟩ := I.list hs
  simp only at hc hd
  subst hc hd
  refine call_meets PySem.F.slot_list_count ⟨_, ho, rfl⟩ PySem.F.entry_list_count (PySem.F.args_list_count_2 _ _) (SeqAt.list_countAt a its.toArray n dd sl u (eqU y)) ⟨ho, fun u' hu' => mem_eqAt ru fy rv fys u' (by simpa using hu'), ?_⟩
  refine ⟨.int (ys.countP (fun z => eqV z y) : Nat), H, I.tok _, ⟨s.toks, ?_⟩, q⟩
  show Value.int ((its.toArray.toList.countP (eqU y) : Nat) : Int) s.toks = _
  rw [List.toList_toArray, countU rv fys]
theorem unH {k : Nat} {A : Around} (r : L2H.RoomH k A) : A.units + 64 < cLine := by
  have := r.un
  omega
end
end SH

set_option Elab.async false
set_option linter.all false
set_option maxRecDepth 100000
set_option maxHeartbeats 2000000
/-! Within an except suite: any of a list of bools; isinstance of an error that bears no dict. A method with no argument that may raise. -/
namespace SH
open PySem PySem.Spec PyProof.Rows L2
section
variable {prog : Program} {w : World} {A : Around} {E : Value → Shared → Prop} {s : Shared}
/-- a list's iterator at its end, while an error at x1 is handled -/
theorem list_ends_hot {it l x1 : Addr} {i : Nat} {its : Array Value} {Q : Option Value → Shared → Prop} (hot : HotX.HotAt A x1 s.heap) (hit : s.heap.IsListIter it l i) (hl : s.heap.IsList l its) (nx : x1 ≠ it) (hx : its[i]? = none)
    (fin : ∀ h', Heap.ExtBut it s.heap h' → Q none { s with heap := h' }) : wpAny (model prog w) A (pyNext (.ref it)) Q E s := by
  obtain ⟨hh, o1, v1, g1, d1, c1⟩ := hot
  obtain ⟨oi, gi, _, di⟩ := id hit
  obtain ⟨ol, gl, _, nl, dl⟩ := hl
  unfold pyNext
  refine wpAny_bind (wpAny_attempt (wpAny_callSpecial?_slot (name := Str.ofString "__next__") hit.typeIs slot_listiter_next (wpAny_call_entry slot_listiter_next hit.typeIs entry_listiter_next ?_ (args_listiter_next _))))
  show wpAny _ _ (field (.ref it) 0 >>= _) _ _ s
  refine wpAny_bind (wpAny_field gi di (x := .ref l) rfl ?_)
  show wpAny _ _ (if (Value.ref l == Value.none) = true then _ else _) _ _ s
  rw [if_neg (show ¬ ((Value.ref l == Value.none) = true) from Bool.false_ne_true)]
  show wpAny _ _ (field (.ref it) 1 >>= _) _ _ s
  refine wpAny_bind (wpAny_field gi di (x := .int i 0) rfl ?_)
  show wpAny _ _ (seqItems? (.ref l) >>= _) _ _ s
  refine wpAny_bind (wpAny_seqItems gl dl ?_)
  simp only [Int.toNat_natCast, hx]
  refine wpAny_bind (wpAny_rule (wpAny_bind (wpAny_setField gi di (by simp) ?_)))
  show wpAny _ _ (newExc (.type "StopIteration") [] >>= _) _ _ _
  refine wpAny_bind ?_
  simp only [newExc, newTuple]
  refine wpAny_bind (wpAny_newObj_type ?_ (by size_fits))
  refine wpAny_bind (m := firstArgMember _ _) (wpAny_of_eq (a := Value.none) (by first | rfl | (simp only [firstArgMember]; rfl)) ?_)
  refine wpAny_newObj_type ?_ (by size_fits)
  have g2 := Heap.get?_update_other s.heap (Obj.mapFields (·.setIfInBounds 0 Value.none)) (Ne.symm nx)
  rw [g1] at g2
  refine HotX.raiseNew_hot ⟨hh, o1, v1, Heap.get?_push_of_some _ (Heap.get?_push_of_some _ g2), d1, c1⟩ (Nat.ne_of_lt (Heap.lt_size (Heap.get?_push_of_some _ g2))) (Heap.get?_push_size _ rfl) rfl (by first | (simp; done) | (simp; omega) | (simp only [Array.size_append]; simp; omega)) ?_
  refine wpAny_bind (wpAny_isInstance (T := "StopIteration") (b := true) ⟨_, Heap.get?_update_self _ (Heap.get?_push_size _ rfl) rfl, rfl⟩ isSubtype_stop ?_)
  refine wpAny_pure (fin _ fun b o nb e => ?_)
  have eb := Heap.get?_update_other s.heap (Obj.mapFields (·.setIfInBounds 0 Value.none)) (Ne.symm nb)
  rw [e] at eb
  rw [Heap.get?_update_other _ _ (Nat.ne_of_gt (Heap.lt_size (Heap.get?_push_of_some _ eb)))]
  exact Heap.get?_push_of_some _ (Heap.get?_push_of_some _ eb)
theorem walks_hot {x1 : Addr} {o1 : Obj} {v1 : Array Value} (hh : A.handled = some (.ref x1)) (d1 : o1.data = .fields v1) (c1 : v1[2]? = some .none) (I ax : Addr) (na : ax ≠ I) (nx : x1 ≠ I) (its : Array Value) :
    Walks prog w A I [I, ax, x1] [I] its.size (fun i v => its[i]? = some v) (fun i h => (h.IsListIter I ax i ∧ h.IsList ax its) ∧ h.get? x1 = some o1) := by
  have ho := fun (h h' : Heap) (b : Addr) => id (α := (∀ y ∈ [I, ax, x1], ∀ o, h.get? y = some o → h'.get? y = some o) → b ∈ [I, ax, x1] → ∀ o, h.get? b = some o → h'.get? b = some o) fun k m => k b m
  refine ⟨fun b hb => by rw [List.mem_singleton.mp hb]; simp, ?_, ?_, ?_, ?_⟩
  · exact fun i h h' st k => ⟨⟨st.1.1.at (ho h h' I k (by simp)), st.1.2.at (ho h h' ax k (by simp))⟩, ho h h' x1 k (by simp) _ st.2⟩
  · intro i s Q E lt st q
    refine wpAny_pyNext_list_item st.1.1 st.1.2 (x := its[i]) (by simp [lt]) fun h' t1 sb => ?_
    exact q _ h' s.toks (by simp [lt]) ⟨⟨t1, st.1.2.extBut sb.extBut na⟩, sb.extBut _ _ nx st.2⟩ fun b o nb e => sb.extBut b o (fun z => nb (by simp [z])) e
  · intro s Q E st q
    exact list_ends_hot ⟨hh, o1, v1, st.2, d1, c1⟩ st.1.1 st.1.2 nx (by simp) fun h' x => q h' s.toks fun b o nb e => x b o (fun z => nb (by simp [z])) e
  · exact fun i s Q E st q => wpAny_pyIter_listiter st.1.1 q
end
section
variable {X : Cx}
/-- any(xs) where an error is handled -/
theorem call_anyH (hot : L2H.HotC X) : CallR X (.builtin "any") (rAny X.K) := by
  intro pins s σ H vs us Q I r h
  obtain ⟨p, ⟨hh, v1, d1, c1⟩, hp⟩ := hot
  obtain ⟨a, bs, rfl, hs, q⟩ := h
  obtain ⟨its, rv, hl, _⟩ := I.list hs
  have gp := (I.pin p (List.mem_append_left _ hp)).1
  have hb := rv.bls
  rw [Vals.ref1 r]
  refine call_any_walk (iter_any hl.isList ?_)
  rintro _ rfl st hne
  refine ⟨_, _, _, _, _, _, _, rfl, walks_hot (A := X.A.in1) (x1 := p.1) hh d1 c1 _ a hne (Nat.ne_of_lt (Heap.lt_size gp)) its.toArray, ⟨st, Heap.get?_push_of_some _ gp⟩, truth_bools hb, fun h' tk keep => ⟨.bl _, H, I.kept fun b o e => keep b o (fun m => ?_) (Heap.get?_push_of_some _ e), ?_, q⟩⟩
  · have := List.mem_singleton.mp m
    exact absurd (this ▸ Heap.lt_size e) (Nat.lt_irrefl _)
  · show Value.bool _ = Value.bool _
    rw [← L2.any_range, hb, List.size_toArray, List.length_map]
/-- isinstance(e, c), e a pinned error of the class at D that bears no dict -/
def rIs0 (K : PySem.W.Frag) (D a : Addr) : List V → Hp → VK → Prop := fun xs H Q => ∃ (c : V) (cv : Value) (b : Bool), xs = [.ref a, c] ∧ (∀ u, RelV c u → u = cv) ∧ PySem.W.kitOne K (.ref D) cv = some b ∧ Q (.bl b) H
theorem call_is0 {a D : Addr} {oe : Obj} (C : ErC X.K D) (hz : Zc (.ref D) none oe) (hf : ∃ vs, oe.data = .fields vs) (hp : (a, oe) ∈ X.pn) : CallR X (.builtin "isinstance") (rIs0 X.K D a) := by
  intro pins s σ H xs us Q I r h
  obtain ⟨c, cv, b, rfl, hcv, e, q⟩ := h
  obtain ⟨vs, hv⟩ := hf
  match r with
  | .cons rx (.cons rt .nil) =>
    cases rx
    obtain rfl := hcv _ rt
    have J : PySem.W.InstAt s.heap a oe D none := ⟨(I.pin (a, oe) (List.mem_append.mpr (.inl hp))).1, hz.1, by unfold PySem.W.notCls; rw [hv] <;> rfl, by rw [hz.2]; trivial⟩
    exact PySem.W.kia_one (PySem.W.kitx_exc C.cl C.hg C.hk C.hs C.ha C.hn C.ht C.hm) I.kIn J e (fun z => nomatch z) fun tk => ⟨.bl b, H, I.kept (t' := tk) fun _ _ z => z, rfl, q⟩
/-- the same where the class isn't known yet -/
def rIsG (K : PySem.W.Frag) (cls : Value) (d : Option Addr) (a : Addr) : List V → Hp → VK → Prop := fun xs H Q => ∃ D, cls = .ref D ∧ d = none ∧ ErC K D ∧ rIs0 K D a xs H Q
theorem call_isG {a : Addr} {oe : Obj} {cls : Value} {d : Option Addr} (hz : Zc cls d oe) (hf : ∃ vs, oe.data = .fields vs) (hp : (a, oe) ∈ X.pn) : CallR X (.builtin "isinstance") (rIsG X.K cls d a) := by
  intro pins s σ H xs us Q I r h
  obtain ⟨D, rfl, rfl, C, h⟩ := h
  exact call_is0 C hz hf hp pins s σ H xs us Q I r h
theorem call_isK (K : PySem.W.Frag) {a : Addr} {oe : Obj} {cls : Value} {d : Option Addr} (hz : Zc cls d oe) (hf : ∃ vs, oe.data = .fields vs) (hp : (a, oe) ∈ X.pn) (hK : X.K = K := by rfl) : CallR X (.builtin "isinstance") (rIsG K cls d a) := hK ▸ call_isG hz hf hp
theorem call_anyK (K : PySem.W.Frag) (hot : L2H.HotC X) (hK : X.K = K := by rfl) : CallR X (.builtin "any") (rAny K) := hK ▸ call_anyH hot
/-- o.m(), what it raises wished for at the caller's slots -/
def tMeth0X (C : Addr) (m : PySem.Str) (sp : Sp) (E : L2.St → XK) (ta : TE) : TE := fun σ H Q => ta σ H fun x H1 => ∃ a dx fs, x = .ref a ∧ H1 a = some (.ins C dx fs) ∧ fs.lookup m = none ∧ sp [x] H1 Q (E σ)
theorem pe_meth0X {CX : CXT} {k : Nat} {f C : Addr} {fd : FuncData} {ps : List PySem.Str} {sp : Sp} {E : L2.St → XK} {m : PySem.Str} {pos apos : Pos} {o : Expr} {ta : TE} {pl : Sem Bool} (he : PE X o ta) (c : Cls X.K C) (hm : Meth X.K C m f) (F : FnOk X.prog X.w X.K X.mg X.base CX k f fd ps sp) (hr : Room k X.A) (hb : Binds X.K fd ps []) (hx : ∀ σ, PassesAt CX X σ (E σ))
    (ht : eval (.Call (.Attribute o m apos) [] [] pos) X.env = (do
      let ov ← eval o X.env
      standAt apos.atName
      let (f, first) ← holding [ov] (getMethod ov m pl)
      callWith pos f first (backTo pos (starEach [] X.env)) (backToKw pos (keywordEach [] X.env))) := by rfl) :
    PE X (.Call (.Attribute o m apos) [] [] pos) (tMeth0X C m sp E ta) := by
  constructor
  intro pins s σ H Q I h
  refine PySem.W.methodCall_KW (pl := pl) (thn (he.run pins s σ H _ I h) ?_) ht
  rintro u s1 ⟨x, H1, I1, rx, a, dx, fs, rfl, ea, l, q⟩
  obtain rfl : u = Value.ref a := rx
  refine getmeth_ok I1 ea c hm l ?_
  exact PySem.W.callWith_K0 (first := [.ref a]) I1.kIn hm.kp (run_fnS (us := [.ref a]) (vs := [.ref a]) F hr hb (hx σ) I1 (.cons rfl .nil) q)
end
section
variable {P : Program} {w : World} {K : PySem.W.Frag} {mg : PySem.Str → Option Value} {base : Heap}
/-- a def that may raise, its errors' context None -/
theorem okN {x qual : PySem.Str} {st : Stmt} {f : Addr} {fd : FuncData} {N ps : List PySem.Str} {k : Nat} {sp : Sp} (F : Fun K x qual st f fd) (S : FnScope N ps (defScope st)) (len : ∀ vs H Q E, sp vs H Q E → vs.length = ps.length)
    (body : ∀ (cdv : Value) (A : Around) (outer : List Env) (s : Shared) (H : Hp) (vs : List V) (Q : VK) (E : XK), Room k (A.deeper (envOfC qual (defScope st) s.heap.objs.size f cdv)) → sp vs H Q E →
      ∃ t, PSs (cxOf (L2N.CX P w) P w K mg base N qual (defScope st) f cdv A outer s H E) (defBody st) t ∧ t { nx := fun _ H' => Q .non H', rt := Q } (start N vs) H) : FnOk P w K mg base (L2N.CX P w) (k + 1) f fd ps sp := by
  obtain ⟨oc, od, kV, doc, pm, an, cdv, ct, osl, rfl, look, code⟩ := F.ex
  exact fn_of look code S len fun A outer s H vs Q E room want => body cdv A outer s H vs Q E room want
theorem passN {X : Cx} : Passes (L2N.CX X.prog X.w) X E0 := fun _ _ _ _ _ _ _ h => by
  obtain ⟨_, _, _, _, _, _, _, _, _, _, _, _, z⟩ := h
  exact z.elim
theorem takesN {X : Cx} : L2N.Takes X (fun _ _ _ _ => False) := fun _ _ x => by
  obtain ⟨_, _, _, _, _, _, _, _, _, _, _, _, _, _, _, _, z⟩ := x
  exact z.elim
/-- a suite's context bears the error that it handles -/
theorem hot_suite {X : Cx} {a : Addr} {oe : Obj} {cls : Value} {d : Option Addr} {pn : List (Addr × Obj)} (hz : L2N.Zn cls d oe) (hf : ∃ vs, oe.data = .fields vs) : L2H.HotC (X.suite a ((a, oe) :: pn)) := by
  obtain ⟨vs, e⟩ := hf
  exact ⟨(a, oe), ⟨rfl, vs, e, hz.2.2 vs e⟩, List.mem_cons_self⟩
end
end SH

set_option Elab.async false
set_option linter.all false
set_option maxRecDepth 100000
set_option maxHeartbeats 2000000
/-! raise X(e) from None in an except suite, X such an error. -/
namespace SH
open PySem PySem.W PySem.Calls PySem.Spec PyProof.Rows PySem.HandSPX
section
variable {prog : Program} {w : World} {A : Around} {E : Value → Shared → Prop} {R : Result → Shared → Prop} {s : Shared} {K : Frag} {mg mb : PySem.Str → Option Value} {x f : PySem.Str} {C fI : Addr} {B newId i : String} {bmB : List Value}
theorem sup_made6 (T : SupC prog K mg x f C fI B newId i bmB) {v : Value} (X : K.In s.heap) (gl : s.heap.Ns mainGlobals mg) (bl : s.heap.Ns builtinsNs mb) (boot : mb "super" = some (.type "super")) (lim : s.heap.NoLimit) (hF : Fmt v) (room : A.depth + 1 < recursionLimit)
    (out : ∀ h' tk e d, SupMade s.heap h' e C d f v → (∃ t1 : Addr, h'.get? e = some { cls := .ref C, dict := some d, data := .fields #[.ref t1, .none, .none, .none, .bool false, .none] }) → R (.ok (.ret (.ref e))) { s with heap := h', toks := tk }) : codeAny (model prog w) A (.call (.ref C) ⟨[v], []⟩) R s := by
  obtain ⟨nm, qn, N, bs, bm, sn, sub, ab, col, dd, k0, k1, k2, k3, k5, lC, hT, pass, along, obj⟩ := T.cls
  obtain ⟨hp, g, dr, tk, os⟩ := s
  have kk : ∀ b o, hp.get? b = some o → ((hp.push (kdv_tup [v])).push (excO C hp.objs.size)).get? b = some o := fun b o z => Heap.get?_push_of_some _ (Heap.get?_push_of_some _ z)
  have there : ((hp.push (kdv_tup [v])).push (excO C hp.objs.size)).get? (hp.objs.size + 1) = some (excO C hp.objs.size) := by heap_get
  have fresh : K.lookup (hp.objs.size + 1) = none := by
    cases z : K.lookup (hp.objs.size + 1) with
    | none => rfl
    | some o =>
      have y : hp.objs.size + 1 < hp.objs.size := Heap.lt_size (X _ _ z)
      exact absurd (Nat.lt_of_succ_lt y) (Nat.lt_irrefl _)
  refine call_own T.FB hT (X _ _ lC) (looks_findIn X T.iC) (fun self => bind_fn X self T.tC) (by show 1 ≤ sizeLine; decide) ?_
  refine sup_init (s := ⟨(hp.push (kdv_tup [v])).push (excO C hp.objs.size), g, dr, tk, os⟩) T (X.keeps kk) (gl.keeps kk) (bl.keeps kk) boot (lim.keeps kk) there fresh hF room fun h' tk' dx t1 D => ?_
  have big : hp.objs.size + 1 + 1 ≤ dx := by
    have y := D.dbig
    rw [Heap.size_push, Heap.size_push] at y
    exact y
  refine ⟨rfl, out h' tk' (hp.objs.size + 1) dx ⟨fun b o y => D.keep b o (Nat.ne_of_lt (Nat.lt_succ_of_lt (Heap.lt_size y))) (kk b o y), Nat.le_succ _, ⟨_, _, D.obj, rfl, rfl, rfl, rfl⟩, ?_, D.dne, D.ns⟩ ⟨_, D.obj⟩⟩
  show hp.objs.size ≤ dx
  omega
end
end SH
namespace SH
open PySem PySem.Spec PyProof.Rows L2
section
variable {X : Cx} {x f : PySem.Str} {C fI : Addr} {B newId i : String} {bmB : List Value}
theorem pmk_sup5 {a : Expr} {ta : TA} {p pos : Pos} (T : SupC X.prog X.K X.mg x f C fI B newId i bmB) (hr : X.A.depth + 1 < recursionLimit) (ha : PA X [a] ta) (hg : Gl X x) (hdb : (x == ("__debug__" : PySem.Str)) = false := by decide)
    (he : starEach (a :: []) X.env = (false, eval a X.env) :: starEach [] X.env := by rfl) (hpl : (backTo pos (starEach [] X.env)).any (·.1) = false := by rfl) :
    L2H.PMk5 X (.Call (.Name x p) [a] [] pos) (tMkS C f ta) := by
  intro pins s σ H Q I h
  refine wpAny_Call_Name_kw (ld_glob I hg T.gC ?_ hdb)
  refine PySem.W.callWith_K (h₀ := X.base) I.ok.mod.kin T.kC (thn (ha.run pos pins s σ H _ I h) ?_) he hpl
  rintro us s1 ⟨vs, H1, I1, r1, v, rfl, fv, q1⟩
  refine ⟨I1.kIn, ?_⟩
  obtain ⟨u, rfl, ru⟩ := vals1 r1
  show wpAny _ _ (call (.ref C) [u]) _ _ _
  have lim := I1.nolimit
  have gl := I1.ok.mod.glob.keeps I1.bk
  obtain ⟨mb, bl0, boot⟩ := I1.ok.mod.blt
  have bl := bl0.keeps I1.bk
  have sup : mb "super" = some (.type "super") := (boot _ (by decide)).trans (by decide +kernel)
  have kIn := I1.kIn
  obtain ⟨hp, g, dr, tk, os⟩ := s1
  refine wpAny_call (sup_made6 T kIn gl bl sup lim (fv.fmt ru) hr fun h' tk' e d M six => ?_)
  show L2N.MkP X pins σ Q (.ref e) ⟨h', g, dr, tk', os⟩ ∧ L2H.Six (.ref e) ⟨h', g, dr, tk', os⟩
  refine ⟨?_, fun a oe vs ea hg hd => ?_⟩
  rotate_left
  · obtain ⟨t1, e1⟩ := six
    cases ea
    have hg : h'.get? e = some oe := hg
    rw [e1] at hg
    cases hg
    cases hd
    show 4 < 6
    decide
  obtain ⟨t1, hoe⟩ := six
  have hns := M.ns
  -- all but the error itself
  obtain ⟨G', g1, g2⟩ := restrict h' fun b => decide (b ≠ e)
  have same : ∀ b, b ≠ e → G'.get? b = h'.get? b := fun b hb => g1 b (decide_eq_true hb)
  have gone : G'.get? e = none := g2 e (by simp)
  have old : ∀ b o, hp.get? b = some o → G'.get? b = some o := fun b o z => (same b (Nat.ne_of_lt (Nat.lt_of_lt_of_le (Heap.lt_size z) M.new))).trans (M.keep b o z)
  have ob : ObjOk X.prog X.w (upd H1 d (.xd [(f, v)])) G' d (.xd [(f, v)]) := ⟨_, hns.at (fun o z => (same d M.dne).trans z), relO_put (fs := []) ru fun _ => True.intro⟩
  have J : L2.Inv X pins σ (upd H1 d (.xd [(f, v)])) ⟨G', g, dr, tk', os⟩ := I1.laid (t' := tk') old M.dbig ob
  refine ⟨e, _, _, ⟨G', g, dr, tk', os⟩, _, .ref C, some d, rfl, J, ?_, gone, hoe, ⟨rfl, rfl, fun vs e => by cases e; rfl⟩, rfl, rfl, ?_, rfl, I1.bare, raises_own T.exC T.tyC, q1 d (I1.hok.fresh M.dbig)⟩
  · intro b o z
    by_cases hb : b = e
    · rw [hb] at z
      have z' : G'.get? e = some o := z
      rw [gone] at z'
      cases z'
    · exact (same b hb).symm.trans z
  · rw [upd_ne (Ne.symm M.dne)]
    exact I1.hok.fresh M.new
/-- raise X(e) from None, in an except suite -/
theorem ps_raiseSN {a : Expr} {ta : TA} {W : WX} {p pos pos2 cpos : Pos} {j : Nat} (hc : L2H.HotC X) (T : SupC X.prog X.K X.mg x f C fI B newId i bmB) (hr : X.A.depth + 1 < recursionLimit) (tk : Takes X W) (ha : PA X [a] ta) (hg : Gl X x) (hdb : (x == ("__debug__" : PySem.Str)) = false := by decide)
    (he : starEach (a :: []) X.env = (false, eval a X.env) :: starEach [] X.env := by rfl) (hpl : (backTo pos (starEach [] X.env)).any (·.1) = false := by rfl) :
    PS X (.Raise (some (.Call (.Name x p) [a] [] pos)) (some (.Constant .none j cpos)) pos2) (tRaiseS C f W ta) := L2H.ps_raiseHN hc tk (pmk_sup5 T hr ha hg hdb he hpl)
end
end SH

set_option Elab.async false
set_option linter.all false
set_option maxRecDepth 100000
namespace SH
open PySem L2
/-- an error of the module's own without an __init__ -/
structure OwnT (K : PySem.W.Frag) (mg : Str → Option Value) (x : Str) (C : Addr) : Prop where
  ex : PySem.W.excIn K C [.type "ValueError", .type "Exception", .type "BaseException", .type "object"] "ValueError.__new__" = true
  mg : mg x = some (.ref C)
  kp : PySem.W.keepIn K (.ref C) = true
  sb : PySem.W.subIn K (.ref C) (.type "BaseException") = some true
  ty : PySem.W.typeIn K (.ref C) = some (.type "type")
def rowsF (f : PyData → Nat → Option Nat) : List PyData → Nat → Option Nat
  | [], l => some l
  | d :: ds, l => match f d l with
    | none => none
    | some l' => rowsF f ds l'
def rowsD (f : PyData → Nat → Option Nat) : PyData → Nat → Option Nat
  | .tuple ds, l => rowsF f ds l
  | _, _ => none
def branD (f : PyData → Nat → Option Nat) : PyData → Nat → Option Nat
  | .tuple [_, _, a, b], l => match rowsD f a l with
    | none => none
    | some l' => rowsD f b l'
  | _, _ => none
def rowD : Nat → PyData → Nat → Option Nat
  | 0, d, l => match l with
    | 0 => none
    | l + 1 => if ifHeadB d then none else if plainB d then some l else none
  | n + 1, d, l => match l with
    | 0 => none
    | l + 1 => if ifHeadB d then branD (rowD n) d l else if plainB d then some l else none
def workB : PyData → Bool
  | .tuple [a, nm, ns, rm, rs] => strB "work" a && (nameD nm && (namesD ns && (withinB 1000 rm && (rowsD (rowD 3) rs 40).isSome)))
  | _ => false
def valO : Option Nat → V
  | none => .int (-1)
  | some l => .int (l : Nat)
def spRowD (n : Nat) : Sp := fun vs H Q _ => ∃ (v : V) (d : PyData) (l : Nat), vs = [v, .int n, .int l] ∧ DpU H v d ∧ Any d ∧ ∀ H', Same H H' → Q (valO (rowD n d l)) H'
def spRowsD (n : Nat) : Sp := fun vs H Q _ => ∃ (v : V) (d : PyData) (l : Nat), vs = [v, .int n, .int l] ∧ DpU H v d ∧ Any d ∧ ∀ H', Same H H' → Q (valO (rowsD (rowD n) d l)) H'
def spBranD (n : Nat) : Sp := fun vs H Q _ => ∃ (v : V) (d : PyData) (l : Nat), vs = [v, .int n, .int l] ∧ DpU H v d ∧ Any d ∧ ifHeadB d = true ∧ ∀ H', Same H H' → Q (valO (branD (rowD n) d l)) H'
def spChkD (CT : Addr) : Sp := fun vs H Q E => ∃ (v : V) (d : PyData), vs = [v] ∧ DpU H v d ∧ Any d ∧ (workB d = true → ∀ H', Same H H' → Q .non H') ∧ (workB d = false → ∀ H', Same H H' → E (.ref CT) none H')
theorem tup5 {H : Hp} {v : V} {d : PyData} (h : DpU H v d) (e : tupN 5 d = true) : ∃ (p : Addr) (x y z u t : V) (a b c f g : PyData), v = .ref p ∧ d = .tuple [a, b, c, f, g] ∧ H p = some (.tup [x, y, z, u, t]) ∧ DpU H x a ∧ DpU H y b ∧ DpU H z c ∧ DpU H u f ∧ DpU H t g := by
  cases h with
  | tup h t =>
    have e' := of_decide_eq_true e
    cases t with
    | nil => cases e'
    | cons hx t =>
      cases t with
      | nil => cases e'
      | cons hy t =>
        cases t with
        | nil => simp at e'
        | cons hz t =>
          cases t with
          | nil => simp at e'
          | cons hu t =>
            cases t with
            | nil => simp at e'
            | cons ht t =>
              cases t with
              | nil => exact ⟨_, _, _, _, _, _, _, _, _, _, _, rfl, rfl, h, hx, hy, hz, hu, ht⟩
              | cons _ _ => simp at e'
  | _ => cases e
theorem ifHead_no {d : PyData} (h : tupN 4 d = false) : ifHeadB d = false := by
  cases d with
  | tuple ds =>
    match ds, h with
    | [], _ => rfl
    | [_], _ => rfl
    | [_, _], _ => rfl
    | [_, _, _], _ => rfl
    | [_, _, _, _], h => cases h
    | _ :: _ :: _ :: _ :: _ :: _, _ => rfl
  | _ => rfl
theorem plain_no {d : PyData} (h2 : tupN 2 d = false) (h3 : tupN 3 d = false) (h4 : tupN 4 d = false) : plainB d = false := by
  cases d with
  | tuple ds =>
    match ds, h2, h3, h4 with
    | [], _, _, _ => rfl
    | [_], _, _, _ => rfl
    | [_, _], h, _, _ => cases h
    | [_, _, _], _, h, _ => cases h
    | [_, _, _, _], _, _, h => cases h
    | _ :: _ :: _ :: _ :: _ :: _, _, _, _ => rfl
  | _ => rfl
theorem work_no {d : PyData} (h : tupN 5 d = false) : workB d = false := by
  cases d with
  | tuple ds =>
    match ds, h with
    | [], _ => rfl
    | [_], _ => rfl
    | [_, _], _ => rfl
    | [_, _, _], _ => rfl
    | [_, _, _, _], _ => rfl
    | [_, _, _, _, _], h => cases h
    | _ :: _ :: _ :: _ :: _ :: _ :: _, _ => rfl
  | _ => rfl
theorem ifHead_tup {d : PyData} (h : ifHeadB d = true) : tupN 4 d = true := by
  cases c : tupN 4 d with
  | true => rfl
  | false => rw [ifHead_no c] at h; cases h
theorem non_iff {H : Hp} {v : V} {d : PyData} (h : DpU H v d) : decide (v = V.non) = noneB d := by
  cases h with
  | non => exact decide_eq_true rfl
  | _ => exact decide_eq_false (fun z => by cases z)
section
variable {P : Program} {w : World} {K : PySem.W.Frag} {mg : Str → Option Value} {base : Heap}
theorem ok_ifHeadD {f i t : Addr} {fd idd td : FuncData} {ds : List Value} (F : Fun K "is_if_head" "is_if_head" sIfHead f fd) (TO : Fk P w K mg base 1 "is_tuple_of" t td ["thing", "many"] spTupD) (IE : Fk P w K mg base 9 "is_expression" i idd ["thing", "deepest"] (spExD 5)) (vE : Vals [V.int 6] ds) (bE : Binds K idd ["thing", "deepest"] ds) :
    FnOk P w K mg base CX0 10 f fd ["thing"] (spAny ifHeadB) := by
  refine F.ok scIfHead (fun vs H Q E h => ?_) (fun cdv A outer s H vs Q E hr h => ?_)
  · obtain ⟨v, d, rfl, _⟩ := h
    rfl
  obtain ⟨v, d, rfl, hd, hy, q⟩ := h
  refine ⟨_, (pss_one (ps_ret (pe_and (pe_call TO.G (hr.mono (by omega)) (by rfl) TO.m TO.k TO.b .nil pass0 (pa_cons (pv 0) (pa_cons pe_int pa_nil))) (pe_and (pe_cmpR (op_eqT hr.units) (pe_ix ix_tup (pv 0) pe_int (fun _ _ => rfl)) pe_str (nomark _)) (pe_one (pe_call IE.G (hr.mono (by omega)) (by rfl) IE.m IE.k bE vE pass0 (pa_cons (pe_ix ix_tup (pv 0) pe_int (fun _ _ => rfl)) pa_nil))))))), ?_⟩
  refine ⟨_, rfl, v, d, 4, rfl, hd, _, rfl, ?_⟩
  cases c : tupN 4 d with
  | false =>
    have := q H (Same.refl H)
    rw [ifHead_no c] at this
    exact this
  | true =>
    obtain ⟨p, x, y, z, u, a, b, c', e, rfl, rfl, hp, hx, hyb, hz, hu⟩ := tup4 hd c
    refine ⟨_, rfl, p, _, 0, _, rfl, rfl, SqT.of hp, atI_nat rfl, a, _, rfl, hx, (hy.mem a (by simp)).sh, by decide +kernel, _, rfl, ?_⟩
    rw [if_neg Bool.false_ne_true]
    have ee : ifHeadB (.tuple [a, b, c', e]) = (strB "if" a && expB 5 b) := rfl
    rw [ee] at q
    cases cs : strB "if" a with
    | false =>
      rw [cs] at q
      exact q H (Same.refl H)
    | true =>
      rw [cs, Bool.true_and] at q
      exact ⟨_, rfl, p, _, 1, _, rfl, rfl, SqT.of hp, atI_nat (j := 1) rfl, y, b, rfl, hyb, hy.mem b (by simp), q⟩
theorem ok_plainD {f i t j k : Addr} {fd idd td jd kd : FuncData} {ds : List Value} (F : Fun K "is_plain_row" "is_plain_row" sPlain f fd) (TO : Fk P w K mg base 1 "is_tuple_of" t td ["thing", "many"] spTupD) (IE : Fk P w K mg base 9 "is_expression" i idd ["thing", "deepest"] (spExD 5)) (vE : Vals [V.int 6] ds) (bE : Binds K idd ["thing", "deepest"] ds)
    (IN : Fk P w K mg base 1 "is_name" j jd ["thing"] (spAny nameD)) (AE : Fk P w K mg base 10 "are_expressions" k kd ["thing"] (spAny expsD)) : FnOk P w K mg base CX0 11 f fd ["thing"] (spAny plainB) := by
  refine F.ok scPlain (fun vs H Q E h => ?_) (fun cdv A outer s H vs Q E hr h => ?_)
  · obtain ⟨v, d, rfl, _⟩ := h
    rfl
  obtain ⟨v, d, rfl, hd, hy, q⟩ := h
  refine ⟨_, (pss_cons (ps_if (pt_val (pe_call TO.G (hr.mono (by omega)) (by rfl) TO.m TO.k TO.b .nil pass0 (pa_cons (pv 0) (pa_cons pe_int pa_nil))))
      (pss_one (ps_ret (pe_and (pe_cmpR (op_inT (room65 hr)) (pe_ix ix_tup (pv 0) pe_int (fun _ _ => rfl)) (pe_tup (pa_cons pe_str (pa_cons pe_str pa_nil))) rfl) (pe_one (pe_call IE.G (hr.mono (by omega)) (by rfl) IE.m IE.k bE vE pass0 (pa_cons (pe_ix ix_tup (pv 0) pe_int (fun _ _ => rfl)) pa_nil))))))
      pss_nil)
    (pss_cons (ps_if (pt_val (pe_call TO.G (hr.mono (by omega)) (by rfl) TO.m TO.k TO.b .nil pass0 (pa_cons (pv 0) (pa_cons pe_int pa_nil))))
      (pss_one (ps_ret (pe_and (pe_cmpR (op_eqT hr.units) (pe_ix ix_tup (pv 0) pe_int (fun _ _ => rfl)) pe_str (nomark _)) (pe_and (pe_call IN.G (hr.mono (by omega)) (by rfl) IN.m IN.k IN.b .nil pass0 (pa_cons (pe_ix ix_tup (pv 0) pe_int (fun _ _ => rfl)) pa_nil)) (pe_one (pe_call IE.G (hr.mono (by omega)) (by rfl) IE.m IE.k bE vE pass0 (pa_cons (pe_ix ix_tup (pv 0) pe_int (fun _ _ => rfl)) pa_nil)))))))
      pss_nil)
    (pss_cons (ps_if (PW.pt (pw_or (pt_not (pt_val (pe_call TO.G (hr.mono (by omega)) (by rfl) TO.m TO.k TO.b .nil pass0 (pa_cons (pv 0) (pa_cons pe_int pa_nil))))) (pw_or (pt_not (pt_val (pe_call IN.G (hr.mono (by omega)) (by rfl) IN.m IN.k IN.b .nil pass0 (pa_cons (pe_ix ix_tup (pv 0) pe_int (fun _ _ => rfl)) pa_nil)))) (pw_or1 (pt_not (pt_val (pe_call IN.G (hr.mono (by omega)) (by rfl) IN.m IN.k IN.b .nil pass0 (pa_cons (pe_ix ix_tup (pv 0) pe_int (fun _ _ => rfl)) pa_nil))))))))
      (pss_one (ps_ret pe_bl))
      pss_nil)
    (pss_cons (ps_if (pt_cmpR (op_eqT hr.units) (pe_ix ix_tup (pv 0) pe_int (fun _ _ => rfl)) pe_str (nomark _))
      (pss_one (ps_ret (pe_or (pe_cmpR op_isN (pe_ix ix_tup (pv 0) pe_int (fun _ _ => rfl)) pe_non (nomark _)) (pe_one (pe_call IE.G (hr.mono (by omega)) (by rfl) IE.m IE.k bE vE pass0 (pa_cons (pe_ix ix_tup (pv 0) pe_int (fun _ _ => rfl)) pa_nil))))))
      pss_nil)
    (pss_one (ps_ret (pe_and (pe_cmpR (op_inT (room65 hr)) (pe_ix ix_tup (pv 0) pe_int (fun _ _ => rfl)) (pe_tup (pa_cons pe_str (pa_cons pe_str pa_nil))) rfl) (pe_one (pe_call AE.G (hr.mono (by omega)) (by rfl) AE.m AE.k AE.b .nil pass0 (pa_cons (pe_ix ix_tup (pv 0) pe_int (fun _ _ => rfl)) pa_nil)))))))))), ?_⟩
  have giveOk : (["give", "fail"] : List Str).all PySem.PyData.strOk = true := by decide +kernel
  have goOk : (["go", "call"] : List Str).all PySem.PyData.strOk = true := by decide +kernel
  refine ⟨_, rfl, v, d, 2, rfl, hd, _, rfl, ?_⟩
  cases c2 : tupN 2 d with
  | true =>
    obtain ⟨p, x, y, a, b, rfl, rfl, hp, hx, hyb⟩ := tup2 hd c2
    refine iteT ?_
    refine ⟨_, rfl, p, _, 0, _, rfl, rfl, SqT.of hp, atI_nat rfl, (by show 2 ≤ sizeLine; decide), fun l hl => ?_⟩
    have s3 := same_new hl (.tup [.str "give", .str "fail"])
    refine ⟨a, l, ["give", "fail"], rfl, hx.same s3, SqT.of upd_same, (hy.mem a (by simp)).sh, giveOk, _, rfl, ?_⟩
    rw [if_neg Bool.false_ne_true]
    have ee : plainB (.tuple [a, b]) = (inB ["give", "fail"] a && expB 5 b) := rfl
    rw [ee] at q
    cases cs : inB ["give", "fail"] a with
    | false =>
      rw [cs] at q
      exact q _ s3
    | true =>
      rw [cs, Bool.true_and] at q
      exact ⟨_, rfl, p, _, 1, _, rfl, rfl, SqT.of (s3 _ _ hp), atI_nat (j := 1) rfl, y, b, rfl, hyb.same s3, hy.mem b (by simp), fun H4 s4 => q H4 (s3.trans s4)⟩
  | false =>
    refine iteF ⟨_, rfl, v, d, 3, rfl, hd, _, rfl, ?_⟩
    cases c3 : tupN 3 d with
    | true =>
      obtain ⟨p, x, y, z, a, b, c, rfl, rfl, hp, hx, hyb, hz⟩ := tup3 hd c3
      refine iteT ?_
      refine ⟨_, rfl, p, _, 0, _, rfl, rfl, SqT.of hp, atI_nat rfl, a, _, rfl, hx, (hy.mem a (by simp)).sh, by decide +kernel, _, rfl, ?_⟩
      rw [if_neg Bool.false_ne_true]
      have ee : plainB (.tuple [a, b, c]) = (strB "put" a && (nameD b && expB 5 c)) := rfl
      rw [ee] at q
      cases cs : strB "put" a with
      | false =>
        rw [cs] at q
        exact q H (Same.refl H)
      | true =>
        rw [cs, Bool.true_and] at q
        refine ⟨_, rfl, p, _, 1, _, rfl, rfl, SqT.of hp, atI_nat (j := 1) rfl, y, b, rfl, hyb, hy.mem b (by simp), fun H1 s1 => ⟨_, rfl, ?_⟩⟩
        cases cb : nameD b with
        | false =>
          rw [cb] at q
          exact q H1 s1
        | true =>
          rw [cb, Bool.true_and] at q
          exact ⟨_, rfl, p, _, 2, _, rfl, rfl, SqT.of (s1 _ _ hp), atI_nat (j := 2) rfl, z, c, rfl, hz.same s1, hy.mem c (by simp), fun H2 s2 => q H2 (s1.trans s2)⟩
    | false =>
      refine iteF ⟨_, rfl, v, d, 4, rfl, hd, _, rfl, ?_⟩
      cases c4 : tupN 4 d with
      | false =>
        have := q H (Same.refl H)
        rw [plain_no c2 c3 c4] at this
        exact this
      | true =>
        obtain ⟨p, x, y, z, u, a, b, c, e, rfl, rfl, hp, hx, hyb, hz, hu⟩ := tup4 hd c4
        have ya := (hy.mem a (by simp)).sh
        have ee : plainB (.tuple [a, b, c, e]) = (nameD b && (nameD c && (if strB "wait" a then noneB e || expB 5 e else inB ["go", "call"] a && expsD e))) := rfl
        rw [ee] at q
        refine ⟨_, rfl, p, _, 1, _, rfl, rfl, SqT.of hp, atI_nat (j := 1) rfl, y, b, rfl, hyb, hy.mem b (by simp), fun H1 s1 => ⟨_, rfl, ?_⟩⟩
        cases cb : nameD b with
        | false =>
          rw [cb] at q
          exact q H1 s1
        | true =>
          rw [cb, Bool.true_and] at q
          refine ⟨_, rfl, p, _, 2, _, rfl, rfl, SqT.of (s1 _ _ hp), atI_nat (j := 2) rfl, z, c, rfl, hz.same s1, hy.mem c (by simp), fun H2 s2 => ⟨_, rfl, ?_⟩⟩
          have s12 := s1.trans s2
          cases cc : nameD c with
          | false =>
            rw [cc] at q
            exact q H2 s12
          | true =>
            rw [cc, Bool.true_and] at q
            refine ⟨_, rfl, p, _, 0, _, rfl, rfl, SqT.of (s12 _ _ hp), atI_nat rfl, a, _, rfl, hx.same s12, ya, by decide +kernel, _, rfl, ?_⟩
            rw [if_neg Bool.false_ne_true]
            cases cw : strB "wait" a with
            | true =>
              rw [cw, if_pos rfl] at q
              refine iteT ?_
              refine ⟨_, rfl, p, _, 3, _, rfl, rfl, SqT.of (s12 _ _ hp), atI_nat (j := 3) rfl, rfl, _, rfl, ?_⟩
              rw [non_iff hu]
              cases cn : noneB e with
              | true =>
                rw [cn] at q
                exact q H2 s12
              | false =>
                rw [cn, Bool.false_or] at q
                exact ⟨_, rfl, p, _, 3, _, rfl, rfl, SqT.of (s12 _ _ hp), atI_nat (j := 3) rfl, u, e, rfl, hu.same s12, hy.mem e (by simp), fun H3 s3 => q H3 (s12.trans s3)⟩
            | false =>
              rw [cw, if_neg Bool.false_ne_true] at q
              refine iteF ?_
              refine ⟨_, rfl, p, _, 0, _, rfl, rfl, SqT.of (s12 _ _ hp), atI_nat rfl, (by show 2 ≤ sizeLine; decide), fun l hl => ?_⟩
              have s3 := same_new hl (.tup [.str "go", .str "call"])
              have s13 := s12.trans s3
              refine ⟨a, l, ["go", "call"], rfl, hx.same s13, SqT.of upd_same, ya, goOk, _, rfl, ?_⟩
              rw [if_neg Bool.false_ne_true]
              cases cg : inB ["go", "call"] a with
              | false =>
                rw [cg] at q
                exact q _ s13
              | true =>
                rw [cg, Bool.true_and] at q
                exact ⟨_, rfl, p, _, 3, _, rfl, rfl, SqT.of (s13 _ _ hp), atI_nat (j := 3) rfl, u, e, rfl, hu.same s13, hy.mem e (by simp), fun H4 s4 => q H4 (s13.trans s4)⟩
end
end SH

set_option Elab.async false
set_option linter.all false
set_option maxRecDepth 100000
namespace SH
open PySem L2
theorem rowD_0 (n : Nat) (d : PyData) : rowD n d 0 = none := by cases n <;> rfl
theorem valO_no (o : Option Nat) : decide (valO o = V.int (-1)) = o.isNone := by
  cases o with
  | none => exact decide_eq_true rfl
  | some l => exact decide_eq_false (fun z => by have := V.int.inj z; omega)
section
variable {P : Program} {w : World} {K : PySem.W.Frag} {mg : Str → Option Value} {base : Heap}
theorem ok_rowLD {n k : Nat} {f i j b : Addr} {fd idd jd bd : FuncData} (hk : 11 ≤ k) (F : Fun K "row_left" "row_left" sRowL f fd) (IH : Fk P w K mg base 10 "is_if_head" i idd ["thing"] (spAny ifHeadB)) (IP : Fk P w K mg base 11 "is_plain_row" j jd ["thing"] (spAny plainB))
    (BL : 1 ≤ n → FnOk P w K mg base CX0 k b bd ["row", "ifs", "left"] (spBranD (n - 1))) (mB : mg "branches_left" = some (.ref b)) (kB : PySem.W.keepIn K (.ref b) = true) (bB : Binds K bd ["row", "ifs", "left"] []) (G : Gf K mg) : FnOk P w K mg base CX0 (k + 1) f fd ["thing", "ifs", "left"] (spRowD n) := by
  refine F.ok scRowL (fun vs H Q E h => ?_) (fun cdv A outer s H vs Q E hr h => ?_)
  · obtain ⟨v, d, l, rfl, _⟩ := h
    rfl
  obtain ⟨v, d, l, rfl, hd, hy, q⟩ := h
  have BG : ∃ sp, FnOk P w K mg base CX0 k b bd ["row", "ifs", "left"] sp ∧ (1 ≤ n → sp = spBranD (n - 1)) := by
    by_cases h1 : 1 ≤ n
    · exact ⟨_, BL h1, fun _ => rfl⟩
    · refine ⟨fun _ _ _ _ => False, ⟨fun _ _ _ _ h => h.elim, fun _ _ _ _ _ _ _ _ _ _ _ _ _ h => h.elim⟩, fun z => absurd z h1⟩
  obtain ⟨spB, GB, eB⟩ := BG
  have BR : Fk P w K mg base k "branches_left" b bd ["row", "ifs", "left"] spB := ⟨GB, mB, kB, bB⟩
  refine ⟨_, (pss_cons (ps_if (pt_cmpR op_eq (pv 2) pe_int (nomark _))
      (pss_one (ps_ret (pe_gi G.norows)))
      pss_nil)
    (pss_cons (ps_if (pt_val (pe_call IH.G (hr.mono (by omega)) (by rfl) IH.m IH.k IH.b .nil pass0 (pa_cons (pv 0) pa_nil)))
      (pss_one (ps_ret (pe_ifExp (pt_cmpR op_eq (pv 1) pe_int (nomark _)) (pe_gi G.norows) (pe_call BR.G hr (by rfl) BR.m BR.k BR.b .nil pass0 (pa_cons (pv 0) (pa_cons (pe_op op_sub (pv 1) pe_int) (pa_cons (pe_op op_sub (pv 2) pe_int) pa_nil)))))))
      pss_nil)
    (pss_one (ps_ret (pe_ifExp (pt_val (pe_call IP.G (hr.mono (by omega)) (by rfl) IP.m IP.k IP.b .nil pass0 (pa_cons (pv 0) pa_nil))) (pe_op op_sub (pv 2) pe_int) (pe_gi G.norows)))))), ?_⟩
  refine ⟨_, rfl, rfl, _, rfl, ?_⟩
  cases l with
  | zero =>
    rw [show decide (V.int ((0 : Nat) : Int) = V.int 0) = true from decide_eq_true rfl]
    have := q H (Same.refl H)
    rw [rowD_0] at this
    exact iteT this
  | succ l =>
    rw [decide_eq_false (by intro z; have := V.int.inj z; omega)]
    refine iteF ?_
    refine ⟨_, rfl, v, d, rfl, hd, hy, fun H1 s1 => ⟨_, rfl, ?_⟩⟩
    have e2 : ((l + 1 : Nat) : Int) - 1 = ((l : Nat) : Int) := by omega
    cases hi : ifHeadB d with
    | false =>
      refine iteF ?_
      refine ⟨_, rfl, v, d, rfl, hd.same s1, hy, fun H2 s2 => ⟨_, rfl, ?_⟩⟩
      have q2 := q H2 (s1.trans s2)
      have ee : rowD n d (l + 1) = if plainB d then some l else none := by
        cases n with
        | zero => show (if ifHeadB d then none else if plainB d then some l else none) = _; rw [hi]; rfl
        | succ m => show (if ifHeadB d then branD (rowD m) d l else if plainB d then some l else none) = _; rw [hi]; rfl
      rw [ee] at q2
      cases hp : plainB d with
      | false =>
        rw [hp] at q2
        exact iteF q2
      | true =>
        rw [hp] at q2
        refine iteT ⟨_, rfl, _, _, rfl, rfl, ?_⟩
        show Q (.int (((l + 1 : Nat) : Int) - 1)) H2
        rw [e2]
        exact q2
    | true =>
      refine iteT ?_
      refine ⟨_, rfl, rfl, _, rfl, ?_⟩
      cases n with
      | zero =>
        rw [show decide (V.int ((0 : Nat) : Int) = V.int 0) = true from decide_eq_true rfl]
        have ee : rowD 0 d (l + 1) = none := by
          show (if ifHeadB d then none else if plainB d then some l else none) = _
          rw [hi]
          rfl
        have q1 := q H1 s1
        rw [ee] at q1
        exact iteT q1
      | succ m =>
        rw [decide_eq_false (by intro z; have := V.int.inj z; omega)]
        refine iteF ?_
        have ee : rowD (m + 1) d (l + 1) = branD (rowD m) d l := by
          show (if ifHeadB d then branD (rowD m) d l else if plainB d then some l else none) = _
          rw [hi]
          rfl
        rw [ee] at q
        have e3 : ((m + 1 : Nat) : Int) - 1 = ((m : Nat) : Int) := by omega
        refine ⟨_, rfl, _, rfl, _, _, rfl, rfl, _, rfl, _, _, rfl, rfl, ?_⟩
        rw [eB (by omega)]
        exact ⟨v, d, l, (by show [v, V.int (((m + 1 : Nat) : Int) - 1), V.int (((l + 1 : Nat) : Int) - 1)] = _; rw [e2, e3]; rfl), hd.same s1, hy, hi, fun H2 s2 => q H2 (s1.trans s2)⟩
theorem ok_branLD {n k : Nat} {f r : Addr} {fd rd : FuncData} (F : Fun K "branches_left" "branches_left" sBranL f fd) (RL : Fk P w K mg base k "rows_left" r rd ["thing", "ifs", "left"] (spRowsD n)) (G : Gf K mg) : FnOk P w K mg base CX0 (k + 1) f fd ["row", "ifs", "left"] (spBranD n) := by
  refine F.ok scBranL (fun vs H Q E h => ?_) (fun cdv A outer s H vs Q E hr h => ?_)
  · obtain ⟨v, d, l, rfl, _⟩ := h
    rfl
  obtain ⟨v, d, l, rfl, hd, hy, hif, q⟩ := h
  refine ⟨_, (pss_cons (ps_set (i := 2) scBranL.nd rfl (Or.inl rfl) (pe_call RL.G hr (by rfl) RL.m RL.k RL.b .nil pass0 (pa_cons (pe_ix ix_tup (pv 0) pe_int (fun _ _ => rfl)) (pa_cons (pv 1) (pa_cons (pv 2) pa_nil)))))
    (pss_one (ps_ret (pe_ifExp (pt_cmpR op_eq (pv 2) (pe_gi G.norows) (nomark _)) (pe_gi G.norows) (pe_call RL.G hr (by rfl) RL.m RL.k RL.b .nil pass0 (pa_cons (pe_ix ix_tup (pv 0) pe_int (fun _ _ => rfl)) (pa_cons (pv 1) (pa_cons (pv 2) pa_nil)))))))), ?_⟩
  obtain ⟨p, x, y, z, u, a, b, c, e, rfl, rfl, hp, hx, hyb, hz, hu⟩ := tup4 hd (ifHead_tup hif)
  refine ⟨_, rfl, p, _, 2, _, rfl, rfl, SqT.of hp, atI_nat (j := 2) rfl, _, rfl, _, rfl, z, c, l, rfl, hz, hy.mem c (by simp), fun H1 s1 => ?_⟩
  have ee : branD (rowD n) (.tuple [a, b, c, e]) l = match rowsD (rowD n) c l with
    | none => none
    | some l' => rowsD (rowD n) e l' := rfl
  rw [ee] at q
  refine ⟨_, rfl, ?_⟩
  cases cr : rowsD (rowD n) c l with
  | none =>
    rw [cr] at q
    refine ⟨rfl, _, rfl, ?_⟩
    exact iteT (q H1 s1)
  | some l' =>
    rw [cr] at q
    refine ⟨rfl, _, rfl, ?_⟩
    rw [show decide (valO (some l') = V.int (-1)) = false from decide_eq_false (fun z => by have := V.int.inj z; omega)]
    refine iteF ?_
    exact ⟨_, rfl, p, _, 3, _, rfl, rfl, SqT.of (s1 _ _ hp), atI_nat (j := 3) rfl, _, rfl, _, rfl, u, e, l', rfl, hu.same s1, hy.mem e (by simp), fun H2 s2 => q H2 (s1.trans s2)⟩
theorem ok_rowsLD {n k : Nat} {f r : Addr} {fd rd : FuncData} (F : Fun K "rows_left" "rows_left" sRowsL f fd) (RW : Fk P w K mg base k "row_left" r rd ["thing", "ifs", "left"] (spRowD n)) (T : Bi mg) (G : Gf K mg) (mt : mg "tuple" = none) : FnOk P w K mg base CX0 (k + 1) f fd ["thing", "ifs", "left"] (spRowsD n) := by
  refine F.ok scRowsL (fun vs H Q E h => ?_) (fun cdv A outer s H vs Q E hr h => ?_)
  · obtain ⟨v, d, l, rfl, _⟩ := h
    rfl
  obtain ⟨v, d, l, rfl, hd, hy, q⟩ := h
  refine ⟨_, (pss_cons (ps_if (pt_not (pt_val (pe_callB call_isi (by rfl) T.isinstance (by decide +kernel) (pa_cons (pv 0) (pa_cons (pe_bltn (v := .ty "tuple") (by rfl) mt (by decide +kernel) rfl) pa_nil)))))
      (pss_one (ps_ret (pe_gi G.norows)))
      pss_nil)
    (pss_cons (ps_for PassesOwn.never rfl (pi_tup (pv 0)) (pg_name (i := 3) scRowsL.nd rfl (.inl rfl))
      (pss_cons (ps_set (i := 2) scRowsL.nd rfl (Or.inl rfl) (pe_call RW.G hr (by rfl) RW.m RW.k RW.b .nil pass0 (pa_cons (pv 3) (pa_cons (pv 1) (pa_cons (pv 2) pa_nil)))))
    (pss_one (ps_if (pt_cmpR op_eq (pv 2) (pe_gi G.norows) (nomark _))
      (pss_one (ps_ret (pe_gi G.norows)))
      pss_nil))))
    (pss_one (ps_ret (pv 2))))), ?_⟩
  cases hd with
  | @tup p xs ds hp t =>
    refine ⟨_, rfl, _, _, _, _, true, rfl, .ty "tuple", .base (.tup hp), kit_ty (by decide +kernel), _, rfl, ?_⟩
    refine ⟨_, rfl, p, rfl, ⟨_, SqT.of hp⟩, ?_⟩
    refine for_tup (K := K) (a := p) (xs := xs) (fun i σ H' => ∃ (l' : Nat) (y : Option V), σ = [some (.ref p), some (.int n), some (.int l'), y] ∧ rowsF (rowD n) ds l = rowsF (rowD n) (ds.drop i) l' ∧ Same H H') ?_ ?_ ?_ ?_
    · exact ⟨l, none, rfl, rfl, Same.refl H⟩
    · rintro i σ H' _ ⟨l', y, _, _, s'⟩
      exact SqT.of (s' _ _ hp)
    · rintro i v σ H1 hv ⟨l', y, rfl, e', s1⟩
      obtain ⟨d, ed, hd⟩ := t.get hv
      have hdr : ds.drop i = d :: ds.drop (i + 1) := by
        obtain ⟨hi, e⟩ := List.getElem?_eq_some_iff.mp ed
        rw [List.drop_eq_getElem_cons hi, e]
      have e2 : rowsF (rowD n) ds l = match rowD n d l' with
          | none => none
          | some l2 => rowsF (rowD n) (ds.drop (i + 1)) l2 := by rw [e', hdr]; rfl
      refine ⟨_, rfl, _, rfl, _, rfl, v, d, l', rfl, hd.same s1, hy.mem d (List.mem_of_getElem? ed), fun H2 s2 => ?_⟩
      cases cr : rowD n d l' with
      | none =>
        rw [cr] at e2
        have q2 := q H2 (s1.trans s2)
        have ee : rowsD (rowD n) (.tuple ds) l = none := e2
        rw [ee] at q2
        exact ⟨_, rfl, rfl, _, rfl, iteT q2⟩
      | some l2 =>
        rw [cr] at e2
        refine ⟨_, rfl, rfl, _, rfl, ?_⟩
        rw [show decide (valO (some l2) = V.int (-1)) = false from decide_eq_false (fun z => by have := V.int.inj z; omega)]
        exact iteF ⟨l2, _, rfl, e2, s1.trans s2⟩
    · rintro σ H1 ⟨l', y, rfl, e', s1⟩
      rw [t.len, List.drop_length] at e'
      have q1 := q H1 s1
      have ee : rowsD (rowD n) (.tuple ds) l = some l' := e'
      rw [ee] at q1
      exact ⟨_, rfl, q1⟩
  | int i => exact ⟨_, rfl, _, _, _, _, false, rfl, .ty "tuple", .base (.int i), kit_ty (by decide +kernel), _, rfl, iteT (q H (Same.refl H))⟩
  | bl b => exact ⟨_, rfl, _, _, _, _, false, rfl, .ty "tuple", .base (.bl b), kit_ty (by decide +kernel), _, rfl, iteT (q H (Same.refl H))⟩
  | non => exact ⟨_, rfl, _, _, _, _, false, rfl, .ty "tuple", .base .non, kit_ty (by decide +kernel), _, rfl, iteT (q H (Same.refl H))⟩
  | str x => exact ⟨_, rfl, _, _, _, _, false, rfl, .ty "tuple", .base (.str x), kit_ty (by decide +kernel), _, rfl, iteT (q H (Same.refl H))⟩
  | lst h _ => exact ⟨_, rfl, _, _, _, _, false, rfl, .ty "tuple", .base (.lst h), kit_ty (by decide +kernel), _, rfl, iteT (q H (Same.refl H))⟩
theorem rowsLDs {f1 f2 f3 i j : Addr} {d1 d2 d3 idd jd : FuncData} (F1 : Fun K "row_left" "row_left" sRowL f1 d1) (F2 : Fun K "branches_left" "branches_left" sBranL f2 d2) (F3 : Fun K "rows_left" "rows_left" sRowsL f3 d3) (m1 : mg "row_left" = some (.ref f1)) (m2 : mg "branches_left" = some (.ref f2)) (m3 : mg "rows_left" = some (.ref f3))
    (b1 : Binds K d1 ["thing", "ifs", "left"] []) (b2 : Binds K d2 ["row", "ifs", "left"] []) (b3 : Binds K d3 ["thing", "ifs", "left"] []) (IH : Fk P w K mg base 10 "is_if_head" i idd ["thing"] (spAny ifHeadB)) (IP : Fk P w K mg base 11 "is_plain_row" j jd ["thing"] (spAny plainB)) (T : Bi mg) (G : Gf K mg) (mt : mg "tuple" = none) :
    ∀ n : Nat, FnOk P w K mg base CX0 (3 * n + 13) f3 d3 ["thing", "ifs", "left"] (spRowsD n)
  | 0 => ok_rowsLD F3 ⟨ok_rowLD (k := 11) (by omega) F1 IH IP (fun h => absurd h (by decide)) m2 F2.kp b2 G, m1, F1.kp, b1⟩ T G mt
  | n + 1 => ok_rowsLD (k := 3 * n + 15) F3 ⟨ok_rowLD (k := 3 * n + 14) (by omega) F1 IH IP (fun _ => ok_branLD F2 ⟨rowsLDs F1 F2 F3 m1 m2 m3 b1 b2 b3 IH IP T G mt n, m3, F3.kp, b3⟩ G) m2 F2.kp b2 G, m1, F1.kp, b1⟩ T G mt
theorem ok_isWorkD {f t i a v r : Addr} {fd td idd ad vd rd : FuncData} (F : Fun K "is_work" "is_work" sIsWork f fd) (TO : Fk P w K mg base 1 "is_tuple_of" t td ["thing", "many"] spTupD) (IN : Fk P w K mg base 1 "is_name" i idd ["thing"] (spAny nameD)) (AN : Fk P w K mg base 2 "are_names" a ad ["thing"] (spAny namesD))
    (WI : Fk P w K mg base 2 "is_whole_within" v vd ["thing", "most"] spWithD) (RL : Fk P w K mg base 22 "rows_left" r rd ["thing", "ifs", "left"] (spRowsD 3)) (G : Gf K mg) : FnOk P w K mg base CX0 23 f fd ["thing"] (spAny workB) := by
  refine F.ok scIsWork (fun vs H Q E h => ?_) (fun cdv A outer s H vs Q E hr h => ?_)
  · obtain ⟨v, d, rfl, _⟩ := h
    rfl
  obtain ⟨v, d, rfl, hd, hy, q⟩ := h
  refine ⟨_, (pss_cons (ps_if (PW.pt (pw_or (pt_not (pt_val (pe_call TO.G (hr.mono (by omega)) (by rfl) TO.m TO.k TO.b .nil pass0 (pa_cons (pv 0) (pa_cons pe_int pa_nil))))) (pw_or1 (pt_cmpR (op_neT hr.units) (pe_ix ix_tup (pv 0) pe_int (fun _ _ => rfl)) pe_str (nomark _)))))
      (pss_one (ps_ret pe_bl))
      pss_nil)
    (pss_cons (ps_asg (pe_slice sl_tup (pv 0) (po_some pe_int) po_none) (pg_tup rfl (pgs_cons (pg_name (i := 1) scIsWork.nd rfl (.inl rfl)) (pgs_cons (pg_name (i := 2) scIsWork.nd rfl (.inl rfl)) (pgs_cons (pg_name (i := 3) scIsWork.nd rfl (.inl rfl)) (pgs_cons (pg_name (i := 4) scIsWork.nd rfl (.inl rfl)) pgs_nil))))))
    (pss_cons (ps_if (PW.pt (pw_or (pt_not (pt_val (pe_call IN.G (hr.mono (by omega)) (by rfl) IN.m IN.k IN.b .nil pass0 (pa_cons (pv 1) pa_nil)))) (pw_or (pt_not (pt_val (pe_call AN.G (hr.mono (by omega)) (by rfl) AN.m AN.k AN.b .nil pass0 (pa_cons (pv 2) pa_nil)))) (pw_or1 (pt_not (pt_val (pe_call WI.G (hr.mono (by omega)) (by rfl) WI.m WI.k WI.b .nil pass0 (pa_cons (pv 3) (pa_cons (pe_gi G.room) pa_nil)))))))))
      (pss_one (ps_ret pe_bl))
      pss_nil)
    (pss_one (ps_ret (pe_cmpR op_ne (pe_call RL.G (hr.mono (by omega)) (by rfl) RL.m RL.k RL.b .nil pass0 (pa_cons (pv 4) (pa_cons (pe_gi G.ifs) (pa_cons (pe_gi G.rows) pa_nil)))) (pe_gi G.norows) (nomark _))))))), ?_⟩
  refine ⟨_, rfl, v, d, 5, rfl, hd, _, rfl, ?_⟩
  cases c : tupN 5 d with
  | false =>
    have := q H (Same.refl H)
    rw [work_no c] at this
    exact iteT this
  | true =>
    obtain ⟨p, x, y, z, u, t, a, nm, ns, rm, rs, rfl, rfl, hp, hx, hyb, hz, hu, ht⟩ := tup5 hd c
    have ee : workB (.tuple [a, nm, ns, rm, rs]) = (strB "work" a && (nameD nm && (namesD ns && (withinB 1000 rm && (rowsD (rowD 3) rs 40).isSome)))) := rfl
    rw [ee] at q
    refine iteF ?_
    refine ⟨_, rfl, p, _, 0, _, rfl, rfl, SqT.of hp, atI_nat rfl, a, _, rfl, hx, (hy.mem a (by simp)).sh, by decide +kernel, _, rfl, ?_⟩
    rw [if_pos rfl]
    cases cs : strB "work" a with
    | false =>
      rw [cs] at q
      exact iteT (q H (Same.refl H))
    | true =>
      rw [cs, Bool.true_and] at q
      refine iteF ?_
      refine ⟨_, rfl, 1, rfl, p, _, rfl, SqT.of hp, (show ¬ (HT.sIx 5 0 (some 1) = 0 ∧ HT.sIx 5 5 none = 5) by decide), fun p2 hp2 => ?_⟩
      have s1 := same_new hp2 (.tup [y, z, u, t])
      refine ⟨p2, _, rfl, SqT.of upd_same, rfl, _, _, rfl, _, _, rfl, _, _, rfl, _, _, rfl, rfl, ?_⟩
      refine ⟨_, rfl, y, nm, rfl, hyb.same s1, hy.mem nm (by simp), fun H2 s2 => ⟨_, rfl, ?_⟩⟩
      have s12 := s1.trans s2
      cases cn : nameD nm with
      | false =>
        rw [cn] at q
        exact iteT (q H2 s12)
      | true =>
        rw [cn, Bool.true_and] at q
        refine iteF ?_
        refine ⟨_, rfl, z, ns, rfl, hz.same s12, hy.mem ns (by simp), fun H3 s3 => ⟨_, rfl, ?_⟩⟩
        have s13 := s12.trans s3
        cases cm : namesD ns with
        | false =>
          rw [cm] at q
          exact iteT (q H3 s13)
        | true =>
          rw [cm, Bool.true_and] at q
          refine iteF ?_
          refine ⟨_, rfl, u, rm, 1000, rfl, hu.same s13, _, rfl, ?_⟩
          cases cw : withinB 1000 rm with
          | false =>
            rw [cw] at q
            exact iteT (q H3 s13)
          | true =>
            rw [cw, Bool.true_and] at q
            refine iteF ?_
            refine ⟨_, rfl, t, rs, 40, rfl, ht.same s13, hy.mem rs (by simp), fun H4 s4 => ?_⟩
            have q4 := q H4 (s13.trans s4)
            have e0 : (!decide (valO (rowsD (rowD 3) rs 40) = V.int (-1))) = (rowsD (rowD 3) rs 40).isSome := by
              rw [valO_no]
              cases rowsD (rowD 3) rs 40 <;> rfl
            refine ⟨?_, ?_⟩
            · cases rowsD (rowD 3) rs 40 <;> rfl
            · rw [e0]
              exact q4
theorem ok_chkWorkD {f i CT : Addr} {fd idd : FuncData} (F : Fun K "check_work" "check_work" sChkWork f fd) (IW : Fk P w K mg base 23 "is_work" i idd ["thing"] (spAny workB)) (BT : OwnT K mg "BadTree" CT) : FnOk P w K mg base (L2N.CX P w) 24 f fd ["thing"] (spChkD CT) := by
  refine okN F scChkWork (fun vs H Q E h => ?_) (fun cdv A outer s H vs Q E hr h => ?_)
  · obtain ⟨v, d, rfl, _⟩ := h
    rfl
  obtain ⟨v, d, rfl, hd, hy, q, qe⟩ := h
  refine ⟨_, (pss_one (ps_if (pt_not (pt_val (pe_call IW.G (hr.mono (by omega)) (by rfl) IW.m IW.k IW.b .nil pass0 (pa_cons (pv 0) pa_nil))))
      (pss_one (L2N.ps_raise rfl (L2N.takes_of rfl rfl rfl rfl) (L2N.pmk_own PySem.F.excBase_ValueError BT.ex BT.mg BT.kp (raises_own BT.sb BT.ty) (by rfl))))
      pss_nil)), ?_⟩
  refine ⟨_, rfl, v, d, rfl, hd, hy, fun H1 s1 => ⟨_, rfl, ?_⟩⟩
  cases c : workB d with
  | true => exact iteF (q c H1 s1)
  | false => exact iteT (qe c H1 s1)
end
end SH

set_option Elab.async false
set_option linter.all false
set_option maxRecDepth 100000
namespace SH
open PySem L2
abbrev sLWh : Stmt := topS 52
abbrev sLNm : Stmt := topS 53
abbrev sDeepL : Stmt := topS 54
abbrev sTreeL : Stmt := topS 56
abbrev sListL : Stmt := topS 55
theorem scLWh : FnScope ["_law_thing"] ["_law_thing"] (defScope sLWh) := ⟨rfl, rfl, rfl, by decide +kernel, rfl, by decide +kernel, by decide +kernel⟩
theorem scLNm : FnScope ["_law_thing", "_law_sign"] ["_law_thing"] (defScope sLNm) := ⟨rfl, rfl, rfl, by decide +kernel, rfl, by decide +kernel, by decide +kernel⟩
theorem scDeepL : FnScope ["_law_thing"] ["_law_thing"] (defScope sDeepL) := ⟨rfl, rfl, rfl, by decide +kernel, rfl, by decide +kernel, by decide +kernel⟩
theorem scTreeL : FnScope ["_law_thing"] ["_law_thing"] (defScope sTreeL) := ⟨rfl, rfl, rfl, by decide +kernel, rfl, by decide +kernel, by decide +kernel⟩
theorem scListL : FnScope ["_law_thing", "_law_many", "_law_is_one", "_law_one"] ["_law_thing", "_law_many", "_law_is_one"] (defScope sListL) := ⟨rfl, rfl, rfl, by decide +kernel, rfl, by decide +kernel, by decide +kernel⟩
def spDeepL (m : Nat) : Sp := fun vs H Q _ => ∃ (v : V) (d : PyData), vs = [v] ∧ DpU H v d ∧ Any d ∧ d.depth ≤ m ∧ ∀ (r : Int) H', Same H H' → 1 ≤ r → (∀ n < 90, expB n d = decide (r ≤ ((n : Nat) : Int) + 1)) → Q (.int r) H'
def listB (f : PyData → Bool) : PyData → Bool
  | .tuple ds => decide (ds.length ≤ 4) && ds.all f
  | _ => false
def spListL (g : Addr) (f : PyData → Bool) : Sp := fun vs H Q _ => ∃ (v : V) (d : PyData), vs = [v, .int 4, .ref g] ∧ DpU H v d ∧ Any d ∧ ∀ H', Same H H' → Q (.bl (listB f d)) H'
section
variable {P : Program} {w : World} {K : PySem.W.Frag} {mg : Str → Option Value} {base : Heap}
theorem ok_wholeL {f : Addr} {fd : FuncData} (F : Fun K "_law_whole" "_law_whole" sLWh f fd) (T : Bi mg) (mt : mg "bool" = none) : FnOk P w K mg base CX0 1 f fd ["_law_thing"] spWhD := by
  refine F.ok scLWh (fun vs H Q E h => ?_) (fun cdv A outer s H vs Q E hr h => ?_)
  · obtain ⟨v, d, rfl, _⟩ := h
    rfl
  obtain ⟨v, d, rfl, hd, q⟩ := h
  refine ⟨_, (pss_one (ps_ret (pe_and (pe_callB call_isi (by rfl) T.isinstance (by decide +kernel) (pa_cons (pv 0) (pa_cons (pe_bltn (v := .ty "int") (by rfl) T.int (by decide +kernel) rfl) pa_nil))) (pe_one (pe_not (pe_callB call_isi (by rfl) T.isinstance (by decide +kernel) (pa_cons (pv 0) (pa_cons (pe_bltn (v := .ty "bool") (by rfl) mt (by decide +kernel) rfl) pa_nil)))))))), ?_⟩
  cases hd with
  | int i =>
    refine ⟨_, rfl, _, _, _, _, true, rfl, .ty "int", .base (.int i), kit_ty (by decide +kernel), _, rfl, ?_⟩
    exact ⟨_, rfl, _, _, _, _, false, rfl, .ty "bool", .base (.int i), kit_ty (by decide +kernel), _, rfl, q⟩
  | bl b =>
    refine ⟨_, rfl, _, _, _, _, true, rfl, .ty "int", .base (.bl b), kit_ty (by decide +kernel), _, rfl, ?_⟩
    exact ⟨_, rfl, _, _, _, _, true, rfl, .ty "bool", .base (.bl b), kit_ty (by decide +kernel), _, rfl, q⟩
  | non => exact ⟨_, rfl, _, _, _, _, false, rfl, .ty "int", .base .non, kit_ty (by decide +kernel), _, rfl, q⟩
  | str x => exact ⟨_, rfl, _, _, _, _, false, rfl, .ty "int", .base (.str x), kit_ty (by decide +kernel), _, rfl, q⟩
  | lst h _ => exact ⟨_, rfl, _, _, _, _, false, rfl, .ty "int", .base (.lst h), kit_ty (by decide +kernel), _, rfl, q⟩
  | tup h _ => exact ⟨_, rfl, _, _, _, _, false, rfl, .ty "int", .base (.tup h), kit_ty (by decide +kernel), _, rfl, q⟩
theorem ok_nameL {f k : Addr} {fd kd : FuncData} (F : Fun K "_law_is_name" "_law_is_name" sLNm f fd) (KE : Fk P w K mg base 1 "_law_kept" k kd [] spKept) (T : Bi mg) : FnOk P w K mg base CX0 2 f fd ["_law_thing"] (spAny nameD) := by
  refine F.ok scLNm (fun vs H Q E h => ?_) (fun cdv A outer s H vs Q E hr h => ?_)
  · obtain ⟨v, d, rfl, _⟩ := h
    rfl
  obtain ⟨v, d, rfl, hd, hy, q⟩ := h
  refine ⟨_, (pss_cons (ps_if (PW.pt (pw_or (pt_not (pt_val (pe_callB call_isi (by rfl) T.isinstance (by decide +kernel) (pa_cons (pv 0) (pa_cons (pe_bltn (v := .ty "str") (by rfl) T.str (by decide +kernel) rfl) pa_nil))))) (pw_or (pt_not (pt_chain op_le op_le pe_int (pe_callB call_len (by rfl) T.len (by decide +kernel) (pa_cons (pv 0) pa_nil)) pe_int)) (pw_or1 (pt_cmpR op_in_seq (pv 0) (pe_call0 KE.G (hr.mono (by omega)) (by rfl) KE.m KE.k KE.b .nil pass0) rfl)))))
      (pss_one (ps_ret pe_bl))
      pss_nil)
    (pss_one (ps_ret (pe_callB (cr_all rfl) (by rfl) T.all (by decide +kernel) (pa_cons (pe_lc (own := [("_law_sign", 1)]) (g := gName 1) (tt := tYes) (by rfl) scLNm.nd (pi_str (pv 0)) (blkOk_by (own := [("_law_sign", 1)]) (N := ["_law_thing", "_law_sign"]) (sc := defScope sLNm) (by decide +kernel)) (fun _ _ _ _ _ => pg_name (i := 1) scLNm.nd rfl (Or.inl rfl)) (fun _ _ _ _ _ => pts_nil) (fun _ _ _ _ _ => (pe_cmpR op_in_sign (pv 1) pe_str rfl))) pa_nil))))), ?_⟩
  have hs : sizeLine = 16777216 := by decide
  cases hd with
  | str z =>
    have hz := hy.slen
    refine ⟨_, rfl, _, _, _, _, true, rfl, .ty "str", .base (.str z), kit_ty (by decide +kernel), _, rfl, ?_⟩
    refine ⟨_, rfl, _, z.length, rfl, ⟨by omega, rfl⟩, _, _, rfl, rfl, _, rfl, ?_⟩
    by_cases c1 : 1 ≤ z.length
    · rw [decide_eq_true (by omega : (1 : Int) ≤ (z.length : Nat))]
      refine ⟨_, _, rfl, rfl, _, rfl, ?_⟩
      by_cases c2 : z.length ≤ 8
      · rw [decide_eq_true (by omega : ((z.length : Nat) : Int) ≤ 8)]
        refine ⟨_, rfl, rfl, fun pk npk => ?_⟩
        have s0 := same_new npk (.lst (kept.map V.str))
        have ek := upd_same (H := H) (a := pk) (o := .lst (kept.map V.str))
        generalize upd H pk (.lst (kept.map V.str)) = H0 at s0 ek ⊢
        refine ⟨pk, _, rfl, .inl (SqL.of ek), rfl, flat_strs kept, _, rfl, ?_⟩
        rw [if_neg Bool.false_ne_true, inV_str]
        by_cases ck : z ∈ kept
        · have e : nameD (.str z) = false := by
            show (decide (1 ≤ z.length) && (decide (z.length ≤ 8) && (!decide (z ∈ kept) && _))) = false
            rw [decide_eq_true ck, Bool.not_true, Bool.false_and, Bool.and_false, Bool.and_false]
          rw [e] at q
          rw [decide_eq_true ck]
          exact iteT (q H0 s0)
        · rw [decide_eq_false ck]
          refine iteF ⟨_, rfl, z, rfl, ?_⟩
          intro D hD
          refine lc_it walk_str (fun j H' => H' D = some (.lst (((z.cps.toList.take j).map fun c => decide (c ∈ letters.cps.toList)).map V.bl)) ∧ Same H0 H') ⟨upd_same, same_new hD _⟩ (fun _ _ _ _ => trivial) ?_ ?_
          · rintro j x H1 H2 hj ⟨hD1, s1⟩ ⟨rfl, c, hc, rfl⟩
            refine ⟨rfl, ?_⟩
            refine ⟨_, rfl, c, letters, rfl, rfl, ?_⟩
            refine ⟨_, hD1, ?_, ?_, ?_⟩
            · rw [List.length_map, List.length_map, List.length_take]
              have : j < z.length := hj
              omega
            · have e1 : z.cps.toList[j]? = some c := by
                rw [Array.getElem?_toList]
                exact hc
              rw [upd_same, List.take_add_one, e1, List.map_append, List.map_append]
              rfl
            · intro x o zz
              rw [upd_ne (ne_of_none zz hD)]
              exact s1 _ _ zz
          · rintro H1 ⟨hD1, s1⟩
            refine ⟨D, _, rfl, SqL.of hD1, ?_⟩
            have e : ((List.take z.cps.size z.cps.toList).map fun c => decide (c ∈ letters.cps.toList)).all id = nameD (.str z) := by
              rw [List.take_of_length_le (by simp), List.all_map]
              show _ = (decide (1 ≤ z.length) && (decide (z.length ≤ 8) && (!decide (z ∈ kept) && _)))
              rw [decide_eq_true c1, decide_eq_true c2, decide_eq_false ck]
              rfl
            rw [e]
            exact q H1 (s0.trans s1)
      · have e : nameD (.str z) = false := by
          show (decide (1 ≤ z.length) && (decide (z.length ≤ 8) && _)) = false
          rw [decide_eq_false c2, Bool.false_and, Bool.and_false]
        rw [e] at q
        rw [decide_eq_false (by omega : ¬ ((z.length : Nat) : Int) ≤ 8)]
        exact iteT (q H (Same.refl H))
    · have e : nameD (.str z) = false := by
        show (decide (1 ≤ z.length) && _) = false
        rw [decide_eq_false c1, Bool.false_and]
      rw [e] at q
      rw [decide_eq_false (by omega : ¬ (1 : Int) ≤ (z.length : Nat))]
      rw [if_neg Bool.false_ne_true]
      exact ⟨false, rfl, iteT (q H (Same.refl H))⟩
  | int i => exact ⟨_, rfl, _, _, _, _, false, rfl, .ty "str", .base (.int i), kit_ty (by decide +kernel), _, rfl, iteT (q H (Same.refl H))⟩
  | bl b => exact ⟨_, rfl, _, _, _, _, false, rfl, .ty "str", .base (.bl b), kit_ty (by decide +kernel), _, rfl, iteT (q H (Same.refl H))⟩
  | non => exact ⟨_, rfl, _, _, _, _, false, rfl, .ty "str", .base .non, kit_ty (by decide +kernel), _, rfl, iteT (q H (Same.refl H))⟩
  | lst h _ => exact ⟨_, rfl, _, _, _, _, false, rfl, .ty "str", .base (.lst h), kit_ty (by decide +kernel), _, rfl, iteT (q H (Same.refl H))⟩
  | tup h _ => exact ⟨_, rfl, _, _, _, _, false, rfl, .ty "str", .base (.tup h), kit_ty (by decide +kernel), _, rfl, iteT (q H (Same.refl H))⟩
end
end SH

set_option Elab.async false
set_option linter.all false
set_option maxRecDepth 100000
namespace SH
open PySem L2
def strQ : PyData → Bool
  | .str _ => true
  | _ => false
theorem strB_no {a : PyData} (t : Str) (h : strQ a = false) : strB t a = false := by
  cases a with
  | str s => cases h
  | _ => rfl
theorem inB_no {a : PyData} (ts : List Str) (h : strQ a = false) : inB ts a = false := by
  unfold inB
  rw [List.any_eq_false]
  intro t _
  rw [strB_no t h]
  exact Bool.false_ne_true
theorem leafB_no {a : PyData} (b : PyData) (h : strQ a = false) : leafB a b = false := by
  unfold leafB
  rw [strB_no _ h, strB_no _ h]
  rfl
theorem expB_nostr {a : PyData} (r : List PyData) (h : strQ a = false) : ∀ n, expB n (.tuple (a :: r)) = false := fun n => by
  match r with
  | [] => cases n <;> rfl
  | [b] => rw [expB_2]; exact leafB_no b h
  | [b, c] =>
    cases n with
    | zero => rfl
    | succ m => show (inB signsL a && _) = false; rw [inB_no _ h]; rfl
  | _ :: _ :: _ :: _ => cases n <;> rfl
theorem inV23 (n : Nat) : inV (V.int (n : Int)) [.int 2, .int 3] = decide (n = 2 ∨ n = 3) := by
  unfold inV
  rw [List.any_cons, List.any_cons, List.any_nil, Bool.or_false]
  have e : ∀ i j : Int, eqV (V.int i) (V.int j) = decide (i = j) := fun i j => by
    show (i == j) = _
    rw [Bool.eq_iff_iff, beq_iff_eq, decide_eq_true_eq]
  rw [e, e, Bool.eq_iff_iff, Bool.or_eq_true, decide_eq_true_eq, decide_eq_true_eq, decide_eq_true_eq]
  omega
theorem strB_str (t s : Str) : strB t (.str s) = decide (s = t) := by
  show (s == t) = _
  rw [Bool.eq_iff_iff, beq_iff_eq, decide_eq_true_eq]
theorem inB_str (ts : List Str) (s : Str) : inB ts (.str s) = decide (s ∈ ts) := by
  unfold inB
  rw [Bool.eq_iff_iff, List.any_eq_true, decide_eq_true_eq]
  constructor
  · rintro ⟨t, ht, e⟩
    rw [strB_str, decide_eq_true_eq] at e
    rw [e]
    exact ht
  · intro h
    exact ⟨s, h, by rw [strB_str, decide_eq_true rfl]⟩
theorem dec_str (s t : Str) : decide (V.str s = V.str t) = decide (s = t) := by
  by_cases z : s = t
  · rw [z, decide_eq_true rfl, decide_eq_true rfl]
  · rw [decide_eq_false z, decide_eq_false (fun y => z (V.str.inj y))]
theorem pow30 : (10 : Int) ^ Int.toNat 30 = 1000000 ^ 5 := by decide +kernel
section
variable {P : Program} {w : World} {K : PySem.W.Frag} {mg : Str → Option Value} {base : Heap}
theorem ok_deepL {m : Nat} {f a1 a2 : Addr} {fd d1 d2 : FuncData} (F : Fun K "_law_deep" "_law_deep" sDeepL f fd) (SI : 1 ≤ m → FnOk P w K mg base CX0 (m + 2) f fd ["_law_thing"] (spDeepL (m - 1))) (mD : mg "_law_deep" = some (.ref f)) (bD : Binds K fd ["_law_thing"] []) (LN : Fk P w K mg base 2 "_law_is_name" a1 d1 ["_law_thing"] (spAny nameD)) (LW : Fk P w K mg base 1 "_law_whole" a2 d2 ["_law_thing"] spWhD) (T : Bi mg) (mt : mg "tuple" = none) : FnOk P w K mg base CX0 (m + 3) f fd ["_law_thing"] (spDeepL m) := by
  refine F.ok scDeepL (fun vs H Q E h => ?_) (fun cdv A outer s H vs Q E hr h => ?_)
  · obtain ⟨v, d, rfl, _⟩ := h
    rfl
  obtain ⟨v, d, rfl, hd, hy, hm, q⟩ := h
  have BG : ∃ sp, FnOk P w K mg base CX0 (m + 2) f fd ["_law_thing"] sp ∧ (1 ≤ m → sp = spDeepL (m - 1)) := by
    by_cases h1 : 1 ≤ m
    · exact ⟨_, SI h1, fun _ => rfl⟩
    · refine ⟨fun _ _ _ _ => False, ⟨fun _ _ _ _ h => h.elim, fun _ _ _ _ _ _ _ _ _ _ _ _ _ h => h.elim⟩, fun z => absurd z h1⟩
  obtain ⟨spB, GB, eB⟩ := BG
  have DP : Fk P w K mg base (m + 2) "_law_deep" f fd ["_law_thing"] spB := ⟨GB, mD, F.kp, bD⟩
  refine ⟨_, (pss_cons (ps_if (PW.pt (pw_or (pt_not (pt_val (pe_callB call_isi (by rfl) T.isinstance (by decide +kernel) (pa_cons (pv 0) (pa_cons (pe_bltn (v := .ty "tuple") (by rfl) mt (by decide +kernel) rfl) pa_nil))))) (pw_or (pt_cmpR op_notIn_seq (pe_callB call_len_seq (by rfl) T.len (by decide +kernel) (pa_cons (pv 0) pa_nil)) (pe_lst (pa_cons pe_int (pa_cons pe_int pa_nil))) rfl) (pw_or1 (pt_not (pt_val (pe_callB call_isi (by rfl) T.isinstance (by decide +kernel) (pa_cons (pe_ix ix_tup (pv 0) pe_int (fun _ _ => rfl)) (pa_cons (pe_bltn (v := .ty "str") (by rfl) T.str (by decide +kernel) rfl) pa_nil)))))))))
      (pss_one (ps_ret pe_int))
      pss_nil)
    (pss_cons (ps_if (pt_cmpR op_eq (pe_callB call_len_seq (by rfl) T.len (by decide +kernel) (pa_cons (pv 0) pa_nil)) pe_int (nomark _))
      (pss_cons (ps_if (pt_cmpR op_notIn_seq (pe_ix ix_tup (pv 0) pe_int (fun _ _ => rfl)) (pe_lst (pa_cons pe_str (pa_cons pe_str (pa_cons pe_str (pa_cons pe_str (pa_cons pe_str pa_nil)))))) rfl)
      (pss_one (ps_ret pe_int))
      pss_nil)
    (pss_one (ps_ret (pe_op op_add pe_int (pe_callB (call_max2 rfl) (by rfl) T.max (by decide +kernel) (pa_cons (pe_call DP.G hr (by rfl) DP.m DP.k DP.b .nil pass0 (pa_cons (pe_ix ix_tup (pv 0) pe_int (fun _ _ => rfl)) pa_nil)) (pa_cons (pe_call DP.G hr (by rfl) DP.m DP.k DP.b .nil pass0 (pa_cons (pe_ix ix_tup (pv 0) pe_int (fun _ _ => rfl)) pa_nil)) pa_nil)))))))
      pss_nil)
    (pss_cons (ps_if (pt_cmpR op_eq (pe_ix ix_tup (pv 0) pe_int (fun _ _ => rfl)) pe_str (nomark _))
      (pss_one (ps_ret (pe_ix ix_list (pe_lst (pa_cons pe_int (pa_cons pe_int pa_nil))) (pe_callTy call_int1 (by rfl) T.int (by decide +kernel) (pa_cons (pe_call LN.G (hr.mono (by omega)) (by rfl) LN.m LN.k LN.b .nil pass0 (pa_cons (pe_ix ix_tup (pv 0) pe_int (fun _ _ => rfl)) pa_nil)) pa_nil)) (fun _ _ => rfl))))
      pss_nil)
    (pss_one (ps_ret (pe_ix ix_list (pe_lst (pa_cons pe_int (pa_cons pe_int pa_nil))) (pe_callTy call_int1 (by rfl) T.int (by decide +kernel) (pa_cons (pe_and (pe_cmpR op_eq (pe_ix ix_tup (pv 0) pe_int (fun _ _ => rfl)) pe_str (nomark _)) (pe_and (pe_call LW.G (hr.mono (by omega)) (by rfl) LW.m LW.k LW.b .nil pass0 (pa_cons (pe_ix ix_tup (pv 0) pe_int (fun _ _ => rfl)) pa_nil)) (pe_one (pe_chain op_le op_lt pe_int (pe_ix ix_tup (pv 0) pe_int (fun _ _ => rfl)) (pe_op op_pow pe_int pe_int))))) pa_nil)) (fun _ _ => rfl))))))), ?_⟩
  have hs : sizeLine = 16777216 := by decide
  have out : ∀ H', Same H H' → (∀ n, expB n d = false) → Q (.int 99) H' := fun H' s' h => q 99 H' s' (by decide) fun n hn => by
    rw [h n, decide_eq_false (by omega)]
  have leaf1 : ∀ (b : Bool) (H' : Hp), Same H H' → (∀ n, expB n d = b) → Q (.int (if b then 1 else 99)) H' := fun b H' s' h => by
    cases b with
    | false => exact out H' s' h
    | true => exact q 1 H' s' (by decide) fun n hn => by rw [h n, decide_eq_true (by omega)]
  cases hd with
  | @tup p xs ds hp t =>
    have hl := t.len
    refine ⟨_, rfl, _, _, _, _, true, rfl, .ty "tuple", .base (.tup hp), kit_ty (by decide +kernel), _, rfl, ?_⟩
    refine iteF ?_
    refine ⟨_, rfl, p, _, rfl, .inr (SqT.of hp), (by show 2 ≤ sizeLine; decide), fun l nl => ?_⟩
    have s1 := same_new nl (.lst [V.int 2, .int 3])
    have e1 := upd_same (H := H) (a := l) (o := .lst [V.int 2, .int 3])
    generalize upd H l (.lst [V.int 2, .int 3]) = H1 at s1 e1 ⊢
    refine ⟨l, _, rfl, .inl (SqL.of e1), rfl, rfl, _, rfl, ?_⟩
    rw [if_pos rfl, inV23, hl]
    have hp1 := s1 _ _ hp
    by_cases c : ds.length = 2 ∨ ds.length = 3
    · rw [decide_eq_true c]
      refine iteF ?_
      have t1 := t.same s1
      obtain ⟨x, a, xr, dr, rfl, rfl, hx, hr'⟩ : ∃ x a xr dr, xs = x :: xr ∧ ds = a :: dr ∧ DpU H1 x a ∧ DpsU H1 xr dr := by
        cases t1 with
        | nil => rcases c with c | c <;> cases c
        | cons h1 h2 => exact ⟨_, _, _, _, rfl, rfl, h1, h2⟩
      have nos : strQ a = false → Q (.int 99) H1 := fun z => out H1 s1 (expB_nostr dr z)
      cases hx with
      | str wd =>
        refine ⟨_, rfl, p, _, 0, _, rfl, rfl, SqT.of hp1, atI_nat rfl, _, _, _, _, true, rfl, .ty "str", .base (.str wd), kit_ty (by decide +kernel), _, rfl, ?_⟩
        refine iteF ?_
        have hdep : PySem.PyData.depthAll (.str wd :: dr) + 1 ≤ m := hm
        refine ⟨_, rfl, p, _, rfl, .inr (SqT.of hp1), rfl, _, rfl, ?_⟩
        rcases c with c | c
        · -- a leaf
          obtain ⟨y, b, rfl, rfl, hyb⟩ : ∃ y b, xr = [y] ∧ dr = [b] ∧ DpU H1 y b := by
            cases hr' with
            | nil => cases c
            | cons h1 h2 =>
              cases h2 with
              | nil => exact ⟨_, _, rfl, rfl, h1⟩
              | cons _ _ => simp at c
          have yb := hy.mem b (by simp)
          rw [show decide (V.int ((([V.str wd, y] : List V).length : Nat) : Int) = V.int 3) = false from decide_eq_false (fun z => by have := V.int.inj z; simp at this)]
          refine iteF ?_
          refine ⟨_, rfl, p, _, 0, _, rfl, rfl, SqT.of hp1, atI_nat rfl, rfl, _, rfl, ?_⟩
          rw [dec_str]
          by_cases cn : wd = "name"
          · rw [decide_eq_true cn]
            subst cn
            refine iteT ?_
            refine ⟨(by show 2 ≤ sizeLine; decide), fun l2 nl2 => ?_⟩
            have s2 := same_new nl2 (.lst [V.int 99, .int 1])
            have e2 := upd_same (H := H1) (a := l2) (o := .lst [V.int 99, .int 1])
            generalize upd H1 l2 (.lst [V.int 99, .int 1]) = H2 at s2 e2 ⊢
            refine ⟨_, rfl, p, _, 1, _, rfl, rfl, SqT.of (s2 _ _ hp1), atI_nat (j := 1) rfl, y, b, rfl, hyb.same s2, yb, fun H3 s3 => .inr ⟨_, rfl, ?_⟩⟩
            have lf : ∀ n, expB n (.tuple [.str "name", b]) = nameD b := fun n => by
              rw [expB_2]
              show (if strB "number" (.str "name") then _ else (strB "name" (.str "name") && nameD b)) = _
              rw [strB_str, strB_str, decide_eq_false (by decide +kernel), decide_eq_true rfl, Bool.true_and]
              rfl
            have fin := leaf1 (nameD b) H3 (s1.trans (s2.trans s3)) lf
            cases cb : nameD b with
            | false => rw [cb] at fin; exact ⟨l2, _, 0, _, rfl, rfl, SqL.of (s3 _ _ e2), atI_nat rfl, fin⟩
            | true => rw [cb] at fin; exact ⟨l2, _, 1, _, rfl, rfl, SqL.of (s3 _ _ e2), atI_nat (j := 1) rfl, fin⟩
          · rw [decide_eq_false cn]
            refine iteF ?_
            refine ⟨(by show 2 ≤ sizeLine; decide), fun l2 nl2 => ?_⟩
            have s2 := same_new nl2 (.lst [V.int 99, .int 1])
            have e2 := upd_same (H := H1) (a := l2) (o := .lst [V.int 99, .int 1])
            generalize upd H1 l2 (.lst [V.int 99, .int 1]) = H2 at s2 e2 ⊢
            have hp2 := s2 _ _ hp1
            have lf : ∀ n, expB n (.tuple [.str wd, b]) = (decide (wd = "number") && withinB (1000000 ^ 5 - 1) b) := fun n => by
              rw [expB_2]
              show (if strB "number" (.str wd) then _ else (strB "name" (.str wd) && nameD b)) = _
              rw [strB_str, strB_str, decide_eq_false cn, Bool.false_and]
              by_cases z : wd = "number"
              · rw [decide_eq_true z, Bool.true_and]; rfl
              · rw [decide_eq_false z, Bool.false_and]; rfl
            have fin : ∀ k : Bool, k = (decide (wd = "number") && withinB (1000000 ^ 5 - 1) b) → ∀ H3, Same H2 H3 → rIxL K (.ref l2) (.int (if k then 1 else 0)) H3 Q := fun k ek H3 s3 => by
              have := leaf1 k H3 (s1.trans (s2.trans s3)) (fun n => by rw [lf n, ek])
              cases k with
              | false => exact ⟨l2, _, 0, _, rfl, rfl, SqL.of (s3 _ _ e2), atI_nat rfl, this⟩
              | true => exact ⟨l2, _, 1, _, rfl, rfl, SqL.of (s3 _ _ e2), atI_nat (j := 1) rfl, this⟩
            refine ⟨_, rfl, p, _, 0, _, rfl, rfl, SqT.of hp2, atI_nat rfl, rfl, _, rfl, ?_⟩
            rw [dec_str]
            by_cases z : wd = "number"
            · rw [decide_eq_true z] at fin ⊢
              rw [if_pos rfl]
              refine ⟨_, rfl, p, _, 1, _, rfl, rfl, SqT.of hp2, atI_nat (j := 1) rfl, y, b, rfl, hyb.same s2, _, rfl, ?_⟩
              have no : withinB (1000000 ^ 5 - 1) b = false → rIxL K (.ref l2) (.int (if false = true then 1 else 0)) H2 Q := fun e => fin false (by rw [e]; rfl) H2 (Same.refl H2)
              cases hyb with
              | int i =>
                refine iteT ?_
                refine ⟨_, rfl, p, _, 1, _, rfl, rfl, SqT.of hp2, atI_nat (j := 1) rfl, _, _, rfl, rfl, _, rfl, ?_⟩
                have p30 : CPow 10 30 := ⟨by decide, by decide, by decide⟩
                by_cases h0 : 0 ≤ i
                · rw [decide_eq_true h0]
                  refine iteT ⟨_, _, rfl, rfl, p30, _, _, rfl, rfl, .inr ⟨_, rfl, fin _ ?_ H2 (Same.refl H2)⟩⟩
                  rw [pow30]
                  show _ = (true && (decide (0 ≤ i) && decide (i ≤ 1000000 ^ 5 - 1)))
                  rw [decide_eq_true h0, Bool.true_and, Bool.true_and, Bool.eq_iff_iff, decide_eq_true_eq, decide_eq_true_eq]
                  omega
                · rw [decide_eq_false h0]
                  exact iteF (.inr ⟨false, rfl, no (by show (decide (0 ≤ i) && _) = false; rw [decide_eq_false h0]; rfl)⟩)
              | non => exact .inr ⟨false, rfl, no rfl⟩
              | bl b => exact .inr ⟨false, rfl, no rfl⟩
              | str x => exact .inr ⟨false, rfl, no rfl⟩
              | lst h t => exact .inr ⟨false, rfl, no rfl⟩
              | tup h t => exact .inr ⟨false, rfl, no rfl⟩
            · rw [decide_eq_false z] at fin ⊢
              exact .inr ⟨false, rfl, fin false rfl H2 (Same.refl H2)⟩
        · -- a sign
          obtain ⟨y, b, z, c', rfl, rfl, hyb, hzc⟩ : ∃ y b z c', xr = [y, z] ∧ dr = [b, c'] ∧ DpU H1 y b ∧ DpU H1 z c' := by
            cases hr' with
            | nil => cases c
            | cons h1 h2 =>
              cases h2 with
              | nil => simp at c
              | cons h3 h4 =>
                cases h4 with
                | nil => exact ⟨_, _, _, _, rfl, rfl, h1, h3⟩
                | cons _ _ => simp at c
          have yb := hy.mem b (by simp)
          have yc := hy.mem c' (by simp)
          rw [show decide (V.int ((([V.str wd, y, z] : List V).length : Nat) : Int) = V.int 3) = true from decide_eq_true rfl]
          refine iteT ?_
          refine ⟨_, rfl, p, _, 0, _, rfl, rfl, SqT.of hp1, atI_nat rfl, (by show 5 ≤ sizeLine; decide), fun l2 nl2 => ?_⟩
          have s2 := same_new nl2 (.lst [V.str "+", .str "-", .str "*", .str "<", .str "=="])
          have e2 := upd_same (H := H1) (a := l2) (o := .lst [V.str "+", .str "-", .str "*", .str "<", .str "=="])
          generalize upd H1 l2 (.lst [V.str "+", .str "-", .str "*", .str "<", .str "=="]) = H2 at s2 e2 ⊢
          have s12 := s1.trans s2
          have ei : inV (.str wd) [V.str "+", .str "-", .str "*", .str "<", .str "=="] = inB signsL (.str wd) := (inV_str (l := signsL)).trans (inB_str _ _).symm
          refine ⟨l2, _, rfl, .inl (SqL.of e2), rfl, rfl, _, rfl, ?_⟩
          rw [if_pos rfl, ei]
          cases cs : inB signsL (.str wd) with
          | false =>
            refine iteT (out H2 s12 fun n => ?_)
            cases n with
            | zero => rfl
            | succ k => show (inB signsL (.str wd) && _) = false; rw [cs]; rfl
          | true =>
            refine iteF ?_
            have hm1 : 1 ≤ m := by omega
            obtain rfl := eB hm1
            have db : b.depth ≤ m - 1 := dep_mem (n := m - 1) (by omega) (ds := .str wd :: [b, c']) (by simp)
            have dc : c'.depth ≤ m - 1 := dep_mem (n := m - 1) (by omega) (ds := .str wd :: [b, c']) (by simp)
            have hp2 := s2 _ _ hp1
            refine ⟨_, rfl, p, _, 1, _, rfl, rfl, SqT.of hp2, atI_nat (j := 1) rfl, y, b, rfl, hyb.same s2, yb, db, fun r1 H3 s3 p1 x1 => ?_⟩
            refine ⟨_, rfl, p, _, 2, _, rfl, rfl, SqT.of (s3 _ _ hp2), atI_nat (j := 2) rfl, z, c', rfl, hzc.same (s2.trans s3), yc, dc, fun r2 H4 s4 p2 x2 => ?_⟩
            refine ⟨_, _, rfl, _, _, rfl, rfl, ?_⟩
            refine q _ H4 (s12.trans (s3.trans s4)) (by split <;> omega) fun n hn => ?_
            cases n with
            | zero => rw [decide_eq_false (by split <;> omega)]; rfl
            | succ k =>
              show (inB signsL (.str wd) && (expB k b && expB k c')) = _
              rw [cs, Bool.true_and, x1 k (by omega), x2 k (by omega), Bool.eq_iff_iff, Bool.and_eq_true, decide_eq_true_eq, decide_eq_true_eq, decide_eq_true_eq]
              split <;> omega
      | int i => exact ⟨_, rfl, p, _, 0, _, rfl, rfl, SqT.of hp1, atI_nat rfl, _, _, _, _, false, rfl, .ty "str", .base (.int i), kit_ty (by decide +kernel), _, rfl, iteT (nos rfl)⟩
      | bl b => exact ⟨_, rfl, p, _, 0, _, rfl, rfl, SqT.of hp1, atI_nat rfl, _, _, _, _, false, rfl, .ty "str", .base (.bl b), kit_ty (by decide +kernel), _, rfl, iteT (nos rfl)⟩
      | non => exact ⟨_, rfl, p, _, 0, _, rfl, rfl, SqT.of hp1, atI_nat rfl, _, _, _, _, false, rfl, .ty "str", .base .non, kit_ty (by decide +kernel), _, rfl, iteT (nos rfl)⟩
      | lst h _ => exact ⟨_, rfl, p, _, 0, _, rfl, rfl, SqT.of hp1, atI_nat rfl, _, _, _, _, false, rfl, .ty "str", .base (.lst h), kit_ty (by decide +kernel), _, rfl, iteT (nos rfl)⟩
      | tup h _ => exact ⟨_, rfl, p, _, 0, _, rfl, rfl, SqT.of hp1, atI_nat rfl, _, _, _, _, false, rfl, .ty "str", .base (.tup h), kit_ty (by decide +kernel), _, rfl, iteT (nos rfl)⟩
    · rw [decide_eq_false c]
      refine iteT (out H1 s1 (expB_no ?_ ?_))
      · exact decide_eq_false fun z => c (.inl z)
      · exact decide_eq_false fun z => c (.inr z)
  | int i => exact ⟨_, rfl, _, _, _, _, false, rfl, .ty "tuple", .base (.int i), kit_ty (by decide +kernel), _, rfl, iteT (out H (Same.refl H) (expB_no rfl rfl))⟩
  | bl b => exact ⟨_, rfl, _, _, _, _, false, rfl, .ty "tuple", .base (.bl b), kit_ty (by decide +kernel), _, rfl, iteT (out H (Same.refl H) (expB_no rfl rfl))⟩
  | non => exact ⟨_, rfl, _, _, _, _, false, rfl, .ty "tuple", .base .non, kit_ty (by decide +kernel), _, rfl, iteT (out H (Same.refl H) (expB_no rfl rfl))⟩
  | str x => exact ⟨_, rfl, _, _, _, _, false, rfl, .ty "tuple", .base (.str x), kit_ty (by decide +kernel), _, rfl, iteT (out H (Same.refl H) (expB_no rfl rfl))⟩
  | lst h _ => exact ⟨_, rfl, _, _, _, _, false, rfl, .ty "tuple", .base (.lst h), kit_ty (by decide +kernel), _, rfl, iteT (out H (Same.refl H) (expB_no rfl rfl))⟩
theorem deepLs {f a1 a2 : Addr} {fd d1 d2 : FuncData} (F : Fun K "_law_deep" "_law_deep" sDeepL f fd) (mD : mg "_law_deep" = some (.ref f)) (bD : Binds K fd ["_law_thing"] []) (LN : Fk P w K mg base 2 "_law_is_name" a1 d1 ["_law_thing"] (spAny nameD)) (LW : Fk P w K mg base 1 "_law_whole" a2 d2 ["_law_thing"] spWhD) (T : Bi mg) (mt : mg "tuple" = none) :
    ∀ m : Nat, FnOk P w K mg base CX0 (m + 3) f fd ["_law_thing"] (spDeepL m)
  | 0 => ok_deepL F (fun h => absurd h (by decide)) mD bD LN LW T mt
  | m + 1 => ok_deepL F (fun _ => deepLs F mD bD LN LW T mt m) mD bD LN LW T mt
theorem ok_treeL {f a : Addr} {fd ad : FuncData} (F : Fun K "_law_is_tree" "_law_is_tree" sTreeL f fd) (DP : Fk P w K mg base 67 "_law_deep" a ad ["_law_thing"] (spDeepL 64)) (T : Bi mg) : FnOk P w K mg base CX0 68 f fd ["_law_thing"] (spAny (expB 5)) := by
  refine F.ok scTreeL (fun vs H Q E h => ?_) (fun cdv A outer s H vs Q E hr h => ?_)
  · obtain ⟨v, d, rfl, _⟩ := h
    rfl
  obtain ⟨v, d, rfl, hd, hy, q⟩ := h
  refine ⟨_, (pss_one (ps_ret (pe_cmpR op_lt (pe_call DP.G (hr.mono (by omega)) (by rfl) DP.m DP.k DP.b .nil pass0 (pa_cons (pv 0) pa_nil)) pe_int (nomark _)))), ?_⟩
  refine ⟨_, rfl, v, d, rfl, hd, hy, SeqAt.depth_of_shaped hy.sh, fun r H1 s1 r1 hx => ?_⟩
  refine ⟨_, _, rfl, rfl, ?_⟩
  have e : decide (r < 7) = expB 5 d := by
    rw [hx 5 (by decide), Bool.eq_iff_iff, decide_eq_true_eq, decide_eq_true_eq]
    omega
  show Q (.bl (decide (r < 7))) H1
  rw [e]
  exact q H1 s1
theorem ok_listL {k : Nat} {f g : Addr} {fd gd : FuncData} {fB : PyData → Bool} (F : Fun K "_law_is_list" "_law_is_list" sListL f fd) (RO : FnOk P w K mg base CX0 k g gd ["_law_thing"] (spAny fB)) (kR : PySem.W.keepIn K (.ref g) = true) (bR : Binds K gd ["_law_thing"] []) (T : Bi mg) (mt : mg "tuple" = none) : FnOk P w K mg base CX0 (k + 1) f fd ["_law_thing", "_law_many", "_law_is_one"] (spListL g fB) := by
  refine F.ok scListL (fun vs H Q E h => ?_) (fun cdv A outer s H vs Q E hr h => ?_)
  · obtain ⟨v, d, rfl, _⟩ := h
    rfl
  obtain ⟨v, d, rfl, hd, hy, q⟩ := h
  refine ⟨_, (pss_one (ps_ret (pe_and (pe_callB call_isi (by rfl) T.isinstance (by decide +kernel) (pa_cons (pv 0) (pa_cons (pe_bltn (v := .ty "tuple") (by rfl) mt (by decide +kernel) rfl) pa_nil))) (pe_and (pe_cmpR op_le (pe_callB call_len_seq (by rfl) T.len (by decide +kernel) (pa_cons (pv 0) pa_nil)) (pv 1) (nomark _)) (pe_one (pe_callB (cr_all rfl) (by rfl) T.all (by decide +kernel) (pa_cons (pe_lc (own := [("_law_one", 3)]) (g := gName 3) (tt := tYes) (by rfl) scListL.nd (pi_tup (pv 0)) (blkOk_by (own := [("_law_one", 3)]) (N := ["_law_thing", "_law_many", "_law_is_one", "_law_one"]) (sc := defScope sListL) (by decide +kernel)) (fun _ _ _ _ _ => pg_name (i := 3) scListL.nd rfl (Or.inl rfl)) (fun _ _ _ _ _ => pts_nil) (fun _ _ _ _ _ => (pe_callL (i := 2) RO (hr.mono (by omega)) rfl (by first | exact .inl rfl | exact .inr (.inl rfl) | exact .inr (.inr rfl)) kR bR .nil pass0 (pa_cons (pv 3) pa_nil)))) pa_nil))))))), ?_⟩
  have hs : sizeLine = 16777216 := by decide
  cases hd with
  | @tup a xs ds ha t =>
    have hl := t.len
    refine ⟨_, rfl, _, _, _, _, true, rfl, .ty "tuple", .base (.tup ha), kit_ty (by decide +kernel), _, rfl, ?_⟩
    refine iteT ?_
    refine ⟨_, rfl, a, _, rfl, .inr (SqT.of ha), _, rfl, _, _, rfl, rfl, _, rfl, ?_⟩
    rw [hl]
    by_cases h4 : ds.length ≤ 4
    · rw [decide_eq_true (by omega : (ds.length : Int) ≤ 4)]
      refine iteT ?_
      refine ⟨_, rfl, a, rfl, ⟨_, SqT.of ha⟩, ?_⟩
      intro D hD
      refine lc_tup (K := K) (a := a) (xs := xs) (fun j H' => H' D = some (.lst (((ds.take j).map fB).map V.bl)) ∧ Same H H') ⟨upd_same, same_new hD _⟩ (fun j H' _ h => SqT.of (h.2 _ _ ha)) ?_ ?_
      · rintro j x H2 hx ⟨hD2, s2⟩
        obtain ⟨d, ed, hd⟩ := t.get hx
        have hj : j < ds.length := (List.getElem?_eq_some_iff.mp ed).1
        refine ⟨rfl, ?_⟩
        refine ⟨rfl, ?_⟩
        refine ⟨_, rfl, x, d, rfl, hd.same s2, hy.mem d (List.mem_of_getElem? ed), fun H3 s3 => ?_⟩
        refine ⟨_, s3 _ _ hD2, by rw [List.length_map, List.length_map, List.length_take]; omega, ?_, ?_⟩
        · rw [upd_same, List.take_add_one, ed, List.map_append, List.map_append]
          rfl
        · intro x o zz
          rw [upd_ne (ne_of_none zz hD)]
          exact s3 _ _ (s2 _ _ zz)
      · rintro H2 ⟨hD2, s2⟩
        rw [hl, List.take_length] at hD2
        refine ⟨D, _, rfl, SqL.of hD2, ?_⟩
        have e1 : (ds.map fB).all id = ds.all fB := by rw [List.all_map]; rfl
        rw [e1]
        have e2 : listB fB (.tuple ds) = ds.all fB := by
          show (decide (ds.length ≤ 4) && _) = _
          rw [decide_eq_true h4, Bool.true_and]
        rw [e2] at q
        exact q H2 s2
    · have e2 : listB fB (.tuple ds) = false := by
        show (decide (ds.length ≤ 4) && _) = _
        rw [decide_eq_false h4, Bool.false_and]
      rw [e2] at q
      rw [decide_eq_false (by omega : ¬ (ds.length : Int) ≤ 4)]
      exact q H (Same.refl H)
  | int i => exact ⟨_, rfl, _, _, _, _, false, rfl, .ty "tuple", .base (.int i), kit_ty (by decide +kernel), _, rfl, q H (Same.refl H)⟩
  | bl b => exact ⟨_, rfl, _, _, _, _, false, rfl, .ty "tuple", .base (.bl b), kit_ty (by decide +kernel), _, rfl, q H (Same.refl H)⟩
  | non => exact ⟨_, rfl, _, _, _, _, false, rfl, .ty "tuple", .base .non, kit_ty (by decide +kernel), _, rfl, q H (Same.refl H)⟩
  | str x => exact ⟨_, rfl, _, _, _, _, false, rfl, .ty "tuple", .base (.str x), kit_ty (by decide +kernel), _, rfl, q H (Same.refl H)⟩
  | lst h _ => exact ⟨_, rfl, _, _, _, _, false, rfl, .ty "tuple", .base (.lst h), kit_ty (by decide +kernel), _, rfl, q H (Same.refl H)⟩
end
end SH

set_option Elab.async false
set_option linter.all false
set_option maxRecDepth 100000
namespace SH
open PySem L2
abbrev sCountL : Stmt := topS 57
abbrev sRowCL : Stmt := topS 58
theorem scCountL : FnScope ["_law_thing", "_law_nested", "_law_one"] ["_law_thing", "_law_nested"] (defScope sCountL) := ⟨rfl, rfl, rfl, by decide +kernel, rfl, by decide +kernel, by decide +kernel⟩
theorem scRowCL : FnScope ["_law_thing", "_law_nested", "_law_word", "_law_more", "_law_good"] ["_law_thing", "_law_nested"] (defScope sRowCL) := ⟨rfl, rfl, rfl, by decide +kernel, rfl, by decide +kernel, by decide +kernel⟩
/-- so many rows are taken of what is left -/
def takes_ (f : Nat → Option Nat) (c : Nat) : Prop := ∀ l, l ≤ 40 → f l = if c ≤ l then some (l - c) else none
def spCountL (n : Nat) : Sp := fun vs H Q _ => ∃ (v : V) (d : PyData) (k : Nat), vs = [v, .int (k : Nat)] ∧ n + k = 3 ∧ DpU H v d ∧ Any d ∧ ∀ (c : Nat) H', Same H H' → takes_ (rowsD (rowD n) d) c → Q (.int (c : Nat)) H'
def spRowCL (n : Nat) : Sp := fun vs H Q _ => ∃ (v : V) (d : PyData) (k : Nat), vs = [v, .int (k : Nat)] ∧ n + k = 3 ∧ DpU H v d ∧ Any d ∧ ∀ (c : Nat) H', Same H H' → takes_ (rowD n d) c → Q (.int (c : Nat)) H'
theorem rowsF_app (f : PyData → Nat → Option Nat) (d : PyData) : ∀ (ds : List PyData) (l : Nat), rowsF f (ds ++ [d]) l = match rowsF f ds l with
    | none => none
    | some l' => f d l'
  | [], l => by
    show (match f d l with | none => none | some l' => some l') = f d l
    cases f d l <;> rfl
  | e :: ds, l => by
    show (match f e l with | none => none | some l' => rowsF f (ds ++ [d]) l') = match (match f e l with | none => none | some l' => rowsF f ds l') with | none => none | some l' => f d l'
    cases f e l with
    | none => rfl
    | some l' => exact rowsF_app f d ds l'
theorem takes_app {f : PyData → Nat → Option Nat} {d : PyData} {ds : List PyData} {c e : Nat} (h : takes_ (rowsF f ds) c) (k : takes_ (f d) e) : takes_ (rowsF f (ds ++ [d])) (c + e) := fun l hl => by
  rw [rowsF_app, h l hl]
  by_cases z : c ≤ l
  · rw [if_pos z]
    show f d (l - c) = _
    rw [k (l - c) (by omega)]
    by_cases y : e ≤ l - c
    · rw [if_pos y, if_pos (by omega), Nat.sub_sub]
    · rw [if_neg y, if_neg (by omega)]
  · rw [if_neg z, if_neg (by omega)]
theorem takes_no {f : Nat → Option Nat} (h : ∀ l, f l = none) : takes_ f 999 := fun l hl => by
  rw [h l, if_neg (by omega)]
theorem rowD_no {n : Nat} {d : PyData} (h : ifHeadB d = false) (k : plainB d = false) : ∀ l, rowD n d l = none := fun l => by
  cases l with
  | zero => exact rowD_0 n d
  | succ l =>
    cases n with
    | zero => show (if ifHeadB d then none else if plainB d then some l else none) = _; rw [h, k]; rfl
    | succ m => show (if ifHeadB d then branD (rowD m) d l else if plainB d then some l else none) = _; rw [h, k]; rfl
theorem takes_plain {n : Nat} {d : PyData} (h : ifHeadB d = false) (k : plainB d = true) : takes_ (rowD n d) 1 := fun l hl => by
  cases l with
  | zero => rw [rowD_0, if_neg (by omega)]
  | succ l =>
    have e : rowD n d (l + 1) = some l := by
      cases n with
      | zero => show (if ifHeadB d then none else if plainB d then some l else none) = _; rw [h, k]; rfl
      | succ m => show (if ifHeadB d then branD (rowD m) d l else if plainB d then some l else none) = _; rw [h, k]; rfl
    rw [e, if_pos (by omega)]
    rfl
theorem heads_no {a : PyData} (r : List PyData) (h : strQ a = false) : ifHeadB (.tuple (a :: r)) = false ∧ plainB (.tuple (a :: r)) = false := by
  match r with
  | [] => exact ⟨rfl, rfl⟩
  | [b] => exact ⟨rfl, by show (inB ["give", "fail"] a && _) = false; rw [inB_no _ h]; rfl⟩
  | [b, c] => exact ⟨rfl, by show (strB "put" a && _) = false; rw [strB_no _ h]; rfl⟩
  | [b, c, e] =>
    refine ⟨by show (strB "if" a && _) = false; rw [strB_no _ h]; rfl, ?_⟩
    show (nameD b && (nameD c && (if strB "wait" a then noneB e || expB 5 e else inB ["go", "call"] a && expsD e))) = false
    rw [strB_no _ h, inB_no _ h]
    simp
  | _ :: _ :: _ :: _ :: _ => exact ⟨rfl, rfl⟩
theorem short_no {ds : List PyData} (h : ds.length < 2) : ifHeadB (.tuple ds) = false ∧ plainB (.tuple ds) = false := by
  match ds, h with
  | [], _ => exact ⟨rfl, rfl⟩
  | [_], _ => exact ⟨rfl, rfl⟩
def pGive (wd : Str) (dr : List PyData) : Bool := decide (wd ∈ (["give", "fail"] : List Str)) && (match dr with | [b] => expB 5 b | _ => false)
def pPut (wd : Str) (dr : List PyData) : Bool := decide (wd = "put") && (match dr with | [b, c] => nameD b && expB 5 c | _ => false)
def pGo (wd : Str) (dr : List PyData) : Bool := decide (wd ∈ (["go", "call", "wait"] : List Str)) && (match dr with | [b, c, e] => nameD b && (nameD c && (if wd = "wait" then noneB e || expB 5 e else listB (expB 5) e)) | _ => false)
theorem exps_list (e : PyData) : expsD e = listB (expB 5) e := by cases e <;> rfl
theorem mem2 {x a b : Str} : x ∈ [a, b] ↔ x = a ∨ x = b := by rw [List.mem_cons, List.mem_singleton]
theorem mem3 {x a b c : Str} : x ∈ [a, b, c] ↔ x = a ∨ x = b ∨ x = c := by rw [List.mem_cons, mem2]
theorem plain_sum (wd : Str) (dr : List PyData) : plainB (.tuple (.str wd :: dr)) = (pGive wd dr || pPut wd dr || pGo wd dr) := by
  have k1 : wd = "put" → ¬ wd ∈ (["give", "fail"] : List Str) ∧ ¬ wd ∈ (["go", "call", "wait"] : List Str) := fun e => by subst e; decide +kernel
  have k2 : wd ∈ (["give", "fail"] : List Str) → ¬ wd = "put" ∧ ¬ wd ∈ (["go", "call", "wait"] : List Str) := fun e => by
    rcases mem2.mp e with rfl | rfl <;> decide +kernel
  have k3 : wd = "wait" → ¬ wd ∈ (["go", "call"] : List Str) ∧ wd ∈ (["go", "call", "wait"] : List Str) := fun e => by subst e; decide +kernel
  have k4 : wd ∈ (["go", "call", "wait"] : List Str) ↔ (wd ∈ (["go", "call"] : List Str) ∨ wd = "wait") := by rw [mem2, mem3, or_assoc]
  unfold pGive pPut pGo
  match dr with
  | [] => show false = _; simp
  | [b] =>
    show (inB ["give", "fail"] (.str wd) && expB 5 b) = _
    rw [inB_str]
    simp
  | [b, c] =>
    show (strB "put" (.str wd) && (nameD b && expB 5 c)) = _
    rw [strB_str]
    simp
  | [b, c, e] =>
    show (nameD b && (nameD c && (if strB "wait" (.str wd) then noneB e || expB 5 e else inB ["go", "call"] (.str wd) && expsD e))) = _
    rw [strB_str, inB_str, exps_list]
    by_cases z : wd = "wait"
    · rw [decide_eq_true z, decide_eq_true (k3 z).2, if_pos rfl]
      show _ = (((_ && false) || (_ && false)) || (true && (nameD b && (nameD c && (if wd = "wait" then _ else _)))))
      rw [if_pos z]
      simp
    · rw [decide_eq_false z, if_neg Bool.false_ne_true]
      show _ = (((_ && false) || (_ && false)) || (_ && (nameD b && (nameD c && (if wd = "wait" then _ else _)))))
      rw [if_neg z]
      by_cases y : wd ∈ (["go", "call"] : List Str)
      · rw [decide_eq_true y, decide_eq_true (k4.mpr (.inl y))]
        simp
      · rw [decide_eq_false y, decide_eq_false (fun x => (k4.mp x).elim y z)]
        simp
  | _ :: _ :: _ :: _ :: _ => show false = _; simp
theorem ifHead_str (wd : Str) (dr : List PyData) : ifHeadB (.tuple (.str wd :: dr)) = (decide (wd = "if") && (match dr with | [b, _, _] => expB 5 b | _ => false)) := by
  match dr with
  | [] => show false = _; simp
  | [b] => show false = _; simp
  | [b, c] => show false = _; simp
  | [b, c, e] => show (strB "if" (.str wd) && expB 5 b) = _; rw [strB_str]
  | _ :: _ :: _ :: _ :: _ => show false = _; simp
theorem ifHead_3 (wd : Str) (b c e : PyData) : ifHeadB (.tuple [.str wd, b, c, e]) = (decide (wd = "if") && expB 5 b) := by
  show (strB "if" (.str wd) && expB 5 b) = _
  rw [strB_str]
theorem give_no {wd : Str} (dr : List PyData) (h : ¬ wd ∈ (["give", "fail"] : List Str)) : pGive wd dr = false := by
  unfold pGive
  rw [decide_eq_false h, Bool.false_and]
theorem put_no {wd : Str} (dr : List PyData) (h : ¬ wd = "put") : pPut wd dr = false := by
  unfold pPut
  rw [decide_eq_false h, Bool.false_and]
theorem go_no {wd : Str} (dr : List PyData) (h : ¬ wd ∈ (["go", "call", "wait"] : List Str)) : pGo wd dr = false := by
  unfold pGo
  rw [decide_eq_false h, Bool.false_and]
theorem put_len {wd : Str} {dr : List PyData} (h : ¬ dr.length = 2) : pPut wd dr = false := by
  unfold pPut
  match dr, h with
  | [], _ => simp
  | [_], _ => simp
  | [_, _], h => exact absurd rfl h
  | _ :: _ :: _ :: _, _ => simp
theorem go_len {wd : Str} {dr : List PyData} (h : ¬ dr.length = 3) : pGo wd dr = false := by
  unfold pGo
  match dr, h with
  | [], _ => simp
  | [_], _ => simp
  | [_, _], _ => simp
  | [_, _, _], h => exact absurd rfl h
  | _ :: _ :: _ :: _ :: _, _ => simp
theorem put_give {wd : Str} (h : wd = "put") : ¬ wd ∈ (["give", "fail"] : List Str) := by subst h; decide +kernel
theorem go_rest {wd : Str} (h : wd ∈ (["go", "call", "wait"] : List Str)) : ¬ wd ∈ (["give", "fail"] : List Str) ∧ ¬ wd = "put" := by
  rcases mem3.mp h with rfl | rfl | rfl <;> decide +kernel
theorem if_plain {wd : Str} {dr : List PyData} (h : wd = "if") : plainB (.tuple (.str wd :: dr)) = false := by
  subst h
  rw [plain_sum]
  unfold pGive pPut pGo
  rw [decide_eq_false (by decide +kernel), decide_eq_false (by decide +kernel), decide_eq_false (by decide +kernel)]
  rfl
theorem takes_if {n : Nat} {wd : Str} {dr : List PyData} (h : ifHeadB (.tuple (.str wd :: dr)) = true → n = 0) (k : plainB (.tuple (.str wd :: dr)) = false) : takes_ (rowD n (.tuple (.str wd :: dr))) 999 := by
  cases c : ifHeadB (.tuple (.str wd :: dr)) with
  | false => exact takes_no (rowD_no c k)
  | true =>
    obtain rfl := h c
    refine takes_no fun l => ?_
    cases l with
    | zero => exact rowD_0 _ _
    | succ l => show (if ifHeadB (.tuple (.str wd :: dr)) then none else if plainB _ then some l else none) = none; rw [c]; rfl
theorem takes_bran {n : Nat} {a b c e : PyData} {i j : Nat} (h : ifHeadB (.tuple [a, b, c, e]) = true) (h1 : takes_ (rowsD (rowD n) c) i) (h2 : takes_ (rowsD (rowD n) e) j) : takes_ (rowD (n + 1) (.tuple [a, b, c, e])) (1 + i + j) := fun l hl => by
  cases l with
  | zero => rw [rowD_0, if_neg (by omega)]
  | succ l =>
    have e0 : rowD (n + 1) (.tuple [a, b, c, e]) (l + 1) = match rowsD (rowD n) c l with
      | none => none
      | some l' => rowsD (rowD n) e l' := by
      show (if ifHeadB (.tuple [a, b, c, e]) then branD (rowD n) (.tuple [a, b, c, e]) l else if plainB _ then some l else none) = _
      rw [h]
      rfl
    rw [e0, h1 l (by omega)]
    by_cases z : i ≤ l
    · rw [if_pos z]
      show rowsD (rowD n) e (l - i) = _
      rw [h2 (l - i) (by omega)]
      by_cases y : j ≤ l - i
      · rw [if_pos y, if_pos (by omega), show l + 1 - (1 + i + j) = l - i - j by omega]
      · rw [if_neg y, if_neg (by omega)]
    · rw [if_neg z, if_neg (by omega)]
theorem cut_one (xs : List V) : cutV xs (some (1 : Int)) none = xs.drop 1 := by
  rw [show (1 : Int) = ((1 : Nat) : Int) from rfl]
  unfold cutV
  rw [HT.sIx_nat, HT.sIx_none]
  by_cases h : 1 ≤ xs.length
  · rw [Nat.min_eq_left h, List.take_of_length_le (by rw [List.length_drop]; omega)]
  · rw [Nat.min_eq_right (by omega), Nat.sub_self, List.take_zero, List.drop_of_length_le (by omega)]
theorem three {H : Hp} {xs : List V} {ds : List PyData} (h : DpsU H xs ds) (c : ds.length = 3) : ∃ x y z a b c, xs = [x, y, z] ∧ ds = [a, b, c] ∧ DpU H x a ∧ DpU H y b ∧ DpU H z c := by
  cases h with
  | nil => cases c
  | cons h1 t =>
    cases t with
    | nil => simp at c
    | cons h2 t =>
      cases t with
      | nil => simp at c
      | cons h3 t =>
        cases t with
        | nil => exact ⟨_, _, _, _, _, _, rfl, rfl, h1, h2, h3⟩
        | cons _ _ => simp at c
theorem two {H : Hp} {xs : List V} {ds : List PyData} (h : DpsU H xs ds) (c : ds.length = 2) : ∃ x y a b, xs = [x, y] ∧ ds = [a, b] ∧ DpU H x a ∧ DpU H y b := by
  cases h with
  | nil => cases c
  | cons h1 t =>
    cases t with
    | nil => simp at c
    | cons h2 t =>
      cases t with
      | nil => exact ⟨_, _, _, _, rfl, rfl, h1, h2⟩
      | cons _ _ => simp at c
theorem one_ {H : Hp} {xs : List V} {ds : List PyData} (h : DpsU H xs ds) (c : ds.length = 1) : ∃ x a, xs = [x] ∧ ds = [a] ∧ DpU H x a := by
  cases h with
  | nil => cases c
  | cons h1 t =>
    cases t with
    | nil => exact ⟨_, _, rfl, rfl, h1⟩
    | cons _ _ => simp at c
theorem dec_int (n m : Nat) : decide (V.int (n : Int) = V.int (m : Int)) = decide (n = m) := by
  by_cases z : n = m
  · rw [z, decide_eq_true rfl, decide_eq_true rfl]
  · rw [decide_eq_false z, decide_eq_false (fun y => z (by injection y with y; omega))]
section
variable {P : Program} {w : World} {K : PySem.W.Frag} {mg : Str → Option Value} {base : Heap}
theorem ok_countL {n k : Nat} {f g : Addr} {fd gd : FuncData} (F : Fun K "_law_count" "_law_count" sCountL f fd) (RC : Fk P w K mg base k "_law_row_count" g gd ["_law_thing", "_law_nested"] (spRowCL n)) (T : Bi mg) (mt : mg "tuple" = none) (q_sum : mg "sum" = none) : FnOk P w K mg base CX0 (k + 1) f fd ["_law_thing", "_law_nested"] (spCountL n) := by
  refine F.ok scCountL (fun vs H Q E h => ?_) (fun cdv A outer s H vs Q E hr h => ?_)
  · obtain ⟨v, d, k, rfl, _⟩ := h
    rfl
  obtain ⟨v, d, k', rfl, hk, hd, hy, q⟩ := h
  have q_isinstance := T.isinstance
  refine ⟨_, (pss_cons (ps_if (pt_not (pt_val (pe_callB call_isi (by rfl) q_isinstance (by decide +kernel) (pa_cons (pv 0) (pa_cons (pe_bltn (v := .ty "tuple") (by rfl) mt (by decide +kernel) rfl) pa_nil)))))
      (pss_one (ps_ret pe_int))
      pss_nil)
    (pss_one (ps_ret (pe_callB (cr_sum rfl) (by rfl) q_sum (by decide +kernel) (pa_cons (pe_lc (own := [("_law_one", 2)]) (g := gName 2) (tt := tYes) (by rfl) scCountL.nd (pi_tup (pv 0)) (blkOk_by (own := [("_law_one", 2)]) (N := ["_law_thing", "_law_nested", "_law_one"]) (sc := defScope sCountL) (by decide +kernel)) (fun _ _ _ _ _ => pg_name (i := 2) scCountL.nd rfl (Or.inl rfl)) (fun _ _ _ _ _ => pts_nil) (fun _ _ _ _ _ => (pe_call RC.G hr (by rfl) RC.m RC.k RC.b .nil pass0 (pa_cons (pv 2) (pa_cons (pv 1) pa_nil))))) pa_nil))))), ?_⟩
  have hs : sizeLine = 16777216 := by decide
  have no : (∀ l, rowsD (rowD n) d l = none) → Q (.int 999) H := fun h => q 999 H (Same.refl H) (takes_no h)
  cases hd with
  | @tup a xs ds ha t =>
    have hl := t.len
    have hz := hy.len
    refine ⟨_, rfl, _, _, _, _, true, rfl, .ty "tuple", .base (.tup ha), kit_ty (by decide +kernel), _, rfl, ?_⟩
    refine iteF ?_
    refine ⟨_, rfl, a, rfl, ⟨_, SqT.of ha⟩, ?_⟩
    intro D hD
    refine lc_tup (K := K) (a := a) (xs := xs) (fun j H' => ∃ cs : List Nat, H' D = some (.lst (cs.map fun c => V.int (c : Nat))) ∧ cs.length = j ∧ takes_ (rowsF (rowD n) (ds.take j)) cs.sum ∧ Same H H') ⟨[], upd_same, rfl, fun l hl => by rw [List.take_zero]; show some l = if 0 ≤ l then some (l - 0) else none; rw [if_pos (Nat.zero_le _), Nat.sub_zero], same_new hD _⟩ (fun j H' _ h => SqT.of (h.choose_spec.2.2.2 _ _ ha)) ?_ ?_
    · rintro j x H2 hx ⟨cs, hD2, hj2, tk, s2⟩
      obtain ⟨d, ed, hd⟩ := t.get hx
      have hj : j < ds.length := (List.getElem?_eq_some_iff.mp ed).1
      refine ⟨rfl, ?_⟩
      refine ⟨_, rfl, _, rfl, x, d, k', rfl, hk, hd.same s2, hy.mem d (List.mem_of_getElem? ed), fun c H3 s3 tc => ?_⟩
      refine ⟨_, s3 _ _ hD2, by rw [List.length_map]; omega, cs ++ [c], ?_, by rw [List.length_append, hj2]; rfl, ?_, ?_⟩
      · rw [upd_same, List.map_append]
        rfl
      · rw [List.take_add_one, ed, List.sum_append]
        exact takes_app tk (by simpa using tc)
      · intro x o zz
        rw [upd_ne (ne_of_none zz hD)]
        exact s3 _ _ (s2 _ _ zz)
    · rintro H2 ⟨cs, hD2, hj2, tk, s2⟩
      rw [hl, List.take_length] at tk
      have e1 : cs.map (fun c => V.int (c : Nat)) = (cs.map fun c => ((c : Nat) : Int)).map V.int := by rw [List.map_map]; rfl
      rw [e1] at hD2
      refine ⟨D, _, rfl, SqL.of hD2, ?_⟩
      have e2 : (cs.map fun c => ((c : Nat) : Int)).sum = ((cs.sum : Nat) : Int) := by
        clear hD2 hj2 tk e1
        induction cs with
        | nil => rfl
        | cons c cs ih => rw [List.map_cons, List.sum_cons, List.sum_cons, ih]; omega
      rw [e2]
      exact q _ H2 s2 tk
  | int i => exact ⟨_, rfl, _, _, _, _, false, rfl, .ty "tuple", .base (.int i), kit_ty (by decide +kernel), _, rfl, iteT (no fun _ => rfl)⟩
  | bl b => exact ⟨_, rfl, _, _, _, _, false, rfl, .ty "tuple", .base (.bl b), kit_ty (by decide +kernel), _, rfl, iteT (no fun _ => rfl)⟩
  | non => exact ⟨_, rfl, _, _, _, _, false, rfl, .ty "tuple", .base .non, kit_ty (by decide +kernel), _, rfl, iteT (no fun _ => rfl)⟩
  | str x => exact ⟨_, rfl, _, _, _, _, false, rfl, .ty "tuple", .base (.str x), kit_ty (by decide +kernel), _, rfl, iteT (no fun _ => rfl)⟩
  | lst h _ => exact ⟨_, rfl, _, _, _, _, false, rfl, .ty "tuple", .base (.lst h), kit_ty (by decide +kernel), _, rfl, iteT (no fun _ => rfl)⟩
theorem ok_rowCL {n k : Nat} {f aT aL aN aC : Addr} {fd dT dL dN dC : FuncData} (hk : 70 ≤ k) (F : Fun K "_law_row_count" "_law_row_count" sRowCL f fd) (LT : Fk P w K mg base 68 "_law_is_tree" aT dT ["_law_thing"] (spAny (expB 5))) (mT : mg "_law_is_tree" = some (.ref aT)) (LN : Fk P w K mg base 2 "_law_is_name" aN dN ["_law_thing"] (spAny nameD)) (LL : Fk P w K mg base 69 "_law_is_list" aL dL ["_law_thing", "_law_many", "_law_is_one"] (spListL aT (expB 5)))
    (SC : 1 ≤ n → FnOk P w K mg base CX0 k aC dC ["_law_thing", "_law_nested"] (spCountL (n - 1))) (mC : mg "_law_count" = some (.ref aC)) (kC : PySem.W.keepIn K (.ref aC) = true) (bC : Binds K dC ["_law_thing", "_law_nested"] []) (T : Bi mg) (mt : mg "tuple" = none) : FnOk P w K mg base CX0 (k + 1) f fd ["_law_thing", "_law_nested"] (spRowCL n) := by
  refine F.ok scRowCL (fun vs H Q E h => ?_) (fun cdv A outer s H vs Q E hr h => ?_)
  · obtain ⟨v, d, k, rfl, _⟩ := h
    rfl
  obtain ⟨v, d, k', rfl, hnk, hd, hy, q⟩ := h
  have BG : ∃ sp, FnOk P w K mg base CX0 k aC dC ["_law_thing", "_law_nested"] sp ∧ (1 ≤ n → sp = spCountL (n - 1)) := by
    by_cases h1 : 1 ≤ n
    · exact ⟨_, SC h1, fun _ => rfl⟩
    · refine ⟨fun _ _ _ _ => False, ⟨fun _ _ _ _ h => h.elim, fun _ _ _ _ _ _ _ _ _ _ _ _ _ h => h.elim⟩, fun z => absurd z h1⟩
  obtain ⟨spB, GB, eB⟩ := BG
  have LC : Fk P w K mg base k "_law_count" aC dC ["_law_thing", "_law_nested"] spB := ⟨GB, mC, kC, bC⟩
  refine ⟨_, (pss_cons (ps_if (PW.pt (pw_or (pt_not (pt_val (pe_callB call_isi (by rfl) T.isinstance (by decide +kernel) (pa_cons (pv 0) (pa_cons (pe_bltn (v := .ty "tuple") (by rfl) mt (by decide +kernel) rfl) pa_nil))))) (pw_or (pt_cmpR op_lt (pe_callB call_len_seq (by rfl) T.len (by decide +kernel) (pa_cons (pv 0) pa_nil)) pe_int (nomark _)) (pw_or1 (pt_not (pt_val (pe_callB call_isi (by rfl) T.isinstance (by decide +kernel) (pa_cons (pe_ix ix_tup (pv 0) pe_int (fun _ _ => rfl)) (pa_cons (pe_bltn (v := .ty "str") (by rfl) T.str (by decide +kernel) rfl) pa_nil)))))))))
      (pss_one (ps_ret pe_int))
      pss_nil)
    (pss_cons (ps_par (i := 2) (j := 3) rfl scRowCL.nd rfl rfl (by decide) rfl rfl (pa_cons (pe_ix ix_tup (pv 0) pe_int (fun _ _ => rfl)) (pa_cons (pe_slice sl_tup (pv 0) (po_some pe_int) po_none) pa_nil)) (by rfl))
    (pss_cons (ps_set (i := 4) scRowCL.nd rfl (Or.inl rfl) pe_bl)
    (C8.pss_cut (ps_if (PW.pt (pw_and (pt_cmpR op_eq (pv 2) pe_str (nomark _)) (pw_and (pt_cmpR op_eq (pe_callB call_len_seq (by rfl) T.len (by decide +kernel) (pa_cons (pv 3) pa_nil)) pe_int (nomark _)) (pw_and (pt_cmpR op_lt (pv 1) pe_int (nomark _)) (pw_and1 (pt_val (pe_call LT.G (hr.mono (by omega)) (by rfl) LT.m LT.k LT.b .nil pass0 (pa_cons (pe_ix ix_tup (pv 3) pe_int (fun _ _ => rfl)) pa_nil))))))))
      (pss_one (ps_ret (pe_op op_add (pe_op op_add pe_int (pe_call LC.G hr (by rfl) LC.m LC.k LC.b .nil pass0 (pa_cons (pe_ix ix_tup (pv 3) pe_int (fun _ _ => rfl)) (pa_cons (pe_op op_add (pv 1) pe_int) pa_nil)))) (pe_call LC.G hr (by rfl) LC.m LC.k LC.b .nil pass0 (pa_cons (pe_ix ix_tup (pv 3) pe_int (fun _ _ => rfl)) (pa_cons (pe_op op_add (pv 1) pe_int) pa_nil))))))
      pss_nil)
    (C8.pss_cut (ps_if (pt_cmpR op_in_seq (pv 2) (pe_lst (pa_cons pe_str (pa_cons pe_str pa_nil))) rfl)
      (pss_one (ps_set (i := 4) scRowCL.nd rfl (Or.inl rfl) (pe_and (pe_cmpR op_eq (pe_callB call_len_seq (by rfl) T.len (by decide +kernel) (pa_cons (pv 3) pa_nil)) pe_int (nomark _)) (pe_one (pe_call LT.G (hr.mono (by omega)) (by rfl) LT.m LT.k LT.b .nil pass0 (pa_cons (pe_ix ix_tup (pv 3) pe_int (fun _ _ => rfl)) pa_nil))))))
      pss_nil)
    (C8.pss_cut (ps_if (pt_cmpR op_eq (pv 2) pe_str (nomark _))
      (pss_one (ps_set (i := 4) scRowCL.nd rfl (Or.inl rfl) (pe_and (pe_cmpR op_eq (pe_callB call_len_seq (by rfl) T.len (by decide +kernel) (pa_cons (pv 3) pa_nil)) pe_int (nomark _)) (pe_and (pe_call LN.G (hr.mono (by omega)) (by rfl) LN.m LN.k LN.b .nil pass0 (pa_cons (pe_ix ix_tup (pv 3) pe_int (fun _ _ => rfl)) pa_nil)) (pe_one (pe_call LT.G (hr.mono (by omega)) (by rfl) LT.m LT.k LT.b .nil pass0 (pa_cons (pe_ix ix_tup (pv 3) pe_int (fun _ _ => rfl)) pa_nil)))))))
      pss_nil)
    (C8.pss_cut (ps_if (PW.pt (pw_and (pt_cmpR op_in_seq (pv 2) (pe_lst (pa_cons pe_str (pa_cons pe_str (pa_cons pe_str pa_nil)))) rfl) (pw_and (pt_cmpR op_eq (pe_callB call_len_seq (by rfl) T.len (by decide +kernel) (pa_cons (pv 3) pa_nil)) pe_int (nomark _)) (pw_and (pt_val (pe_call LN.G (hr.mono (by omega)) (by rfl) LN.m LN.k LN.b .nil pass0 (pa_cons (pe_ix ix_tup (pv 3) pe_int (fun _ _ => rfl)) pa_nil))) (pw_and1 (pt_val (pe_call LN.G (hr.mono (by omega)) (by rfl) LN.m LN.k LN.b .nil pass0 (pa_cons (pe_ix ix_tup (pv 3) pe_int (fun _ _ => rfl)) pa_nil))))))))
      (pss_cons (ps_set (i := 4) scRowCL.nd rfl (Or.inl rfl) (pe_call LL.G (hr.mono (by omega)) (by rfl) LL.m LL.k LL.b .nil pass0 (pa_cons (pe_ix ix_tup (pv 3) pe_int (fun _ _ => rfl)) (pa_cons pe_int (pa_cons (pe_glob (v := .ref aT) rfl mT rfl) pa_nil)))))
    (pss_one (ps_if (pt_cmpR op_eq (pv 2) pe_str (nomark _))
      (pss_one (ps_set (i := 4) scRowCL.nd rfl (Or.inl rfl) (pe_or (pe_cmpR op_isN (pe_ix ix_tup (pv 3) pe_int (fun _ _ => rfl)) pe_non (nomark _)) (pe_one (pe_call LT.G (hr.mono (by omega)) (by rfl) LT.m LT.k LT.b .nil pass0 (pa_cons (pe_ix ix_tup (pv 3) pe_int (fun _ _ => rfl)) pa_nil))))))
      pss_nil)))
      pss_nil)
    (pss_one (ps_ret (pe_ix ix_list (pe_lst (pa_cons pe_int (pa_cons pe_int pa_nil))) (pe_callTy call_int1 (by rfl) T.int (by decide +kernel) (pa_cons (pv 4) pa_nil)) (fun _ _ => rfl))))))))))), ?_⟩
  have hs : sizeLine = 16777216 := by decide
  have no : ∀ H', Same H H' → ifHeadB d = false → plainB d = false → Q (.int 999) H' := fun H' s' h k => q 999 H' s' (takes_no (rowD_no h k))
  cases hd with
  | @tup p xs ds ha t =>
    have hl := t.len
    have hz := hy.len
    refine ⟨_, rfl, _, _, _, _, true, rfl, .ty "tuple", .base (.tup ha), kit_ty (by decide +kernel), _, rfl, ?_⟩
    refine iteF ?_
    refine ⟨_, rfl, p, _, rfl, .inr (SqT.of ha), _, _, rfl, rfl, _, rfl, ?_⟩
    rw [hl]
    by_cases c2 : ds.length < 2
    · rw [decide_eq_true (by omega : (ds.length : Int) < 2)]
      exact iteT (no H (Same.refl H) (short_no c2).1 (short_no c2).2)
    · rw [decide_eq_false (by omega : ¬ (ds.length : Int) < 2)]
      refine iteF ?_
      obtain ⟨x, a, xr, dr, rfl, rfl, hx, hr'⟩ : ∃ x a xr dr, xs = x :: xr ∧ ds = a :: dr ∧ DpU H x a ∧ DpsU H xr dr := by
        cases t with
        | nil => exact absurd (by decide) c2
        | cons h1 h2 => exact ⟨_, _, _, _, rfl, rfl, h1, h2⟩
      have nos : strQ a = false → Q (.int 999) H := fun z => no H (Same.refl H) (heads_no dr z).1 (heads_no dr z).2
      cases hx with
      | str wd =>
        refine ⟨_, rfl, p, _, 0, _, rfl, rfl, SqT.of ha, atI_nat rfl, _, _, _, _, true, rfl, .ty "str", .base (.str wd), kit_ty (by decide +kernel), _, rfl, ?_⟩
        refine iteF ?_
        refine ⟨_, rfl, p, _, 0, _, rfl, rfl, SqT.of ha, atI_nat rfl, ?_⟩
        refine ⟨_, rfl, 1, rfl, p, _, rfl, SqT.of ha, (fun z => by have := z.1; rw [show (1 : Int) = ((1 : Nat) : Int) from rfl, HT.sIx_nat] at this; simp at this), fun p2 np2 => ?_⟩
        rw [cut_one]
        have s1 := same_new np2 (.tup ((V.str wd :: xr).drop 1))
        have h2 := upd_same (H := H) (a := p2) (o := .tup xr)
        rw [show (V.str wd :: xr).drop 1 = xr from rfl] at s1 ⊢
        generalize upd H p2 (.tup xr) = H1 at s1 h2 ⊢
        have t1 := hr'.same s1
        have lr := t1.len
        have ym : ∀ d ∈ dr, Any d := fun d hd => hy.mem d (List.mem_cons_of_mem _ hd)
        refine ⟨_, _, rfl, ?_⟩
        refine ⟨fun σ' H' => σ' = [some (.ref p), some (.int (k' : Nat)), some (.str wd), some (.ref p2), some (.bl false)] ∧ Same H1 H' ∧ (ifHeadB (.tuple (.str wd :: dr)) = true → n = 0), ?_, ?_⟩
        · refine ⟨_, rfl, rfl, _, rfl, ?_⟩
          rw [dec_str]
          by_cases ci : wd = "if"
          · rw [decide_eq_true ci]
            refine iteT ?_
            refine ⟨_, rfl, p2, _, rfl, .inr (SqT.of h2), rfl, _, rfl, ?_⟩
            rw [show decide (V.int ((xr.length : Nat) : Int) = V.int 3) = decide (xr.length = 3) from dec_int _ 3, lr]
            by_cases c3 : dr.length = 3
            · rw [decide_eq_true c3]
              refine iteT ?_
              obtain ⟨x1, x2, x3, b, c, e, rfl, rfl, hb, hc, he⟩ := three t1 c3
              refine ⟨_, rfl, _, _, rfl, rfl, _, rfl, ?_⟩
              by_cases k3 : (k' : Int) < 3
              · rw [decide_eq_true k3]
                refine iteT ?_
                refine ⟨_, rfl, p2, _, 0, _, rfl, rfl, SqT.of h2, atI_nat rfl, x1, b, rfl, hb, ym b (by simp), fun H3 s3 => ⟨_, rfl, ?_⟩⟩
                cases cb : expB 5 b with
                | false => exact iteF ⟨rfl, s3, fun z => by rw [ifHead_3, cb, Bool.and_false] at z; cases z⟩
                | true =>
                  refine iteT ?_
                  have hn : 1 ≤ n := by omega
                  obtain ⟨m, rfl⟩ : ∃ m, n = m + 1 := ⟨n - 1, by omega⟩
                  obtain rfl := eB hn
                  have hm : m + 1 - 1 = m := rfl
                  have ek : ((k' : Nat) : Int) + 1 = ((k' + 1 : Nat) : Int) := by omega
                  have h3 := s3 _ _ h2
                  refine ⟨_, rfl, p2, _, 1, _, rfl, rfl, SqT.of h3, atI_nat (j := 1) rfl, _, rfl, _, _, rfl, rfl, x2, c, k' + 1, (by show [x2, V.int ((k' : Nat) + 1)] = _; rw [ek]), (by omega), hc.same s3, ym c (by simp), fun i H4 s4 t4 => ?_⟩
                  refine ⟨_, _, rfl, rfl, _, rfl, p2, _, 2, _, rfl, rfl, SqT.of (s4 _ _ h3), atI_nat (j := 2) rfl, _, rfl, _, _, rfl, rfl, x3, e, k' + 1, (by show [x3, V.int ((k' : Nat) + 1)] = _; rw [ek]), (by omega), he.same (s3.trans s4), ym e (by simp), fun j H5 s5 t5 => ?_⟩
                  refine ⟨_, _, rfl, rfl, ?_⟩
                  have ei : ifHeadB (.tuple [.str wd, b, c, e]) = true := by rw [ifHead_3, decide_eq_true ci, cb]; rfl
                  have fin := q (1 + i + j) H5 (s1.trans (s3.trans (s4.trans s5))) (takes_bran ei t4 t5)
                  have e9 : (((1 + i + j : Nat)) : Int) = 1 + ((i : Nat) : Int) + ((j : Nat) : Int) := by omega
                  rw [e9] at fin
                  exact fin
              · rw [decide_eq_false k3]
                exact iteF ⟨rfl, Same.refl H1, fun _ => by omega⟩
            · rw [decide_eq_false c3]
              refine iteF ⟨rfl, Same.refl H1, fun z => ?_⟩
              rw [ifHead_str] at z
              match dr, c3, z with
              | [], _, z => simp at z
              | [_], _, z => simp at z
              | [_, _], _, z => simp at z
              | [_, _, _], c, _ => exact absurd rfl c
              | _ :: _ :: _ :: _ :: _, _, z => simp at z
          · rw [decide_eq_false ci]
            exact iteF ⟨rfl, Same.refl H1, fun z => by rw [ifHead_str, decide_eq_false ci] at z; cases z⟩
        rintro σ2 H2 ⟨rfl, s2, hif⟩
        have h22 := s2 _ _ h2
        refine ⟨fun σ' H' => σ' = [some (.ref p), some (.int (k' : Nat)), some (.str wd), some (.ref p2), some (.bl (pGive wd dr))] ∧ Same H1 H', ?_, ?_⟩
        · refine ⟨_, rfl, (by show 2 ≤ sizeLine; decide), fun l nl => ?_⟩
          have s3 := same_new nl (.lst [V.str "give", .str "fail"])
          have e3 := upd_same (H := H2) (a := l) (o := .lst [V.str "give", .str "fail"])
          generalize upd H2 l (.lst [V.str "give", .str "fail"]) = H3 at s3 e3 ⊢
          have ei : inV (.str wd) [V.str "give", .str "fail"] = decide (wd ∈ (["give", "fail"] : List Str)) := inV_str (l := ["give", "fail"])
          refine ⟨l, _, rfl, .inl (SqL.of e3), rfl, rfl, _, rfl, ?_⟩
          rw [if_neg Bool.false_ne_true, ei]
          by_cases cg : wd ∈ (["give", "fail"] : List Str)
          · rw [decide_eq_true cg]
            refine iteT ?_
            have h23 := s3 _ _ h22
            refine ⟨_, rfl, p2, _, rfl, .inr (SqT.of h23), rfl, _, rfl, ?_⟩
            rw [show decide (V.int ((xr.length : Nat) : Int) = V.int 1) = decide (xr.length = 1) from dec_int _ 1, lr]
            by_cases c1 : dr.length = 1
            · rw [decide_eq_true c1]
              refine iteT ?_
              obtain ⟨x1, b, rfl, rfl, hb⟩ := one_ t1 c1
              refine ⟨_, rfl, p2, _, 0, _, rfl, rfl, SqT.of h23, atI_nat rfl, x1, b, rfl, hb.same (s2.trans s3), ym b (by simp), fun H4 s4 => ?_⟩
              refine ⟨?_, s2.trans (s3.trans s4)⟩
              have e : pGive wd [b] = expB 5 b := by
                unfold pGive
                rw [decide_eq_true cg, Bool.true_and]
              rw [e]
              rfl
            · rw [decide_eq_false c1]
              refine ⟨?_, s2.trans s3⟩
              have e : pGive wd dr = false := by
                unfold pGive
                match dr, c1 with
                | [], _ => simp
                | [_], c => exact absurd rfl c
                | _ :: _ :: _, _ => simp
              rw [e]
              rfl
          · rw [decide_eq_false cg]
            have e : pGive wd dr = false := by
              unfold pGive
              rw [decide_eq_false cg, Bool.false_and]
            rw [e]
            exact iteF ⟨rfl, s2.trans s3⟩
        rintro σ4 H4 ⟨rfl, s4⟩
        have h24 := s4 _ _ h2
        refine ⟨fun σ' H' => σ' = [some (.ref p), some (.int (k' : Nat)), some (.str wd), some (.ref p2), some (.bl (pGive wd dr || pPut wd dr))] ∧ Same H1 H', ?_, ?_⟩
        · refine ⟨_, rfl, rfl, _, rfl, ?_⟩
          rw [dec_str]
          by_cases cp : wd = "put"
          · rw [decide_eq_true cp]
            refine iteT ?_
            have eg := give_no dr (put_give cp)
            refine ⟨_, rfl, p2, _, rfl, .inr (SqT.of h24), rfl, _, rfl, ?_⟩
            rw [show decide (V.int ((xr.length : Nat) : Int) = V.int 2) = decide (xr.length = 2) from dec_int _ 2, lr]
            by_cases c2' : dr.length = 2
            · rw [decide_eq_true c2']
              refine iteT ?_
              obtain ⟨x1, x2, b, c, rfl, rfl, hb, hc⟩ := two t1 c2'
              have ep : (pGive wd [b, c] || pPut wd [b, c]) = (nameD b && expB 5 c) := by
                rw [eg, Bool.false_or]
                unfold pPut
                rw [decide_eq_true cp, Bool.true_and]
              rw [ep]
              refine ⟨_, rfl, p2, _, 0, _, rfl, rfl, SqT.of h24, atI_nat rfl, x1, b, rfl, hb.same s4, ym b (by simp), fun H5 s5 => ⟨_, rfl, ?_⟩⟩
              cases cb : nameD b with
              | false => exact ⟨rfl, s4.trans s5⟩
              | true =>
                refine ⟨_, rfl, p2, _, 1, _, rfl, rfl, SqT.of (s5 _ _ h24), atI_nat (j := 1) rfl, x2, c, rfl, hc.same (s4.trans s5), ym c (by simp), fun H6 s6 => ?_⟩
                exact ⟨rfl, s4.trans (s5.trans s6)⟩
            · rw [decide_eq_false c2', eg, put_len c2']
              exact ⟨rfl, s4⟩
          · rw [decide_eq_false cp, put_no dr cp, Bool.or_false]
            exact iteF ⟨rfl, s4⟩
        rintro σ5 H5 ⟨rfl, s5⟩
        have h25 := s5 _ _ h2
        refine ⟨fun σ' H' => σ' = [some (.ref p), some (.int (k' : Nat)), some (.str wd), some (.ref p2), some (.bl (pGive wd dr || pPut wd dr || pGo wd dr))] ∧ Same H1 H', ?_, ?_⟩
        · refine ⟨_, rfl, (by show 3 ≤ sizeLine; decide), fun l nl => ?_⟩
          have s6 := same_new nl (.lst [V.str "go", .str "call", .str "wait"])
          have e6 := upd_same (H := H5) (a := l) (o := .lst [V.str "go", .str "call", .str "wait"])
          generalize upd H5 l (.lst [V.str "go", .str "call", .str "wait"]) = H6 at s6 e6 ⊢
          have s56 := s5.trans s6
          have h26 := s6 _ _ h25
          have ei : inV (.str wd) [V.str "go", .str "call", .str "wait"] = decide (wd ∈ (["go", "call", "wait"] : List Str)) := inV_str (l := ["go", "call", "wait"])
          refine ⟨l, _, rfl, .inl (SqL.of e6), rfl, rfl, _, rfl, ?_⟩
          rw [if_neg Bool.false_ne_true, ei]
          by_cases cg : wd ∈ (["go", "call", "wait"] : List Str)
          · rw [decide_eq_true cg]
            have eg := give_no dr (go_rest cg).1
            have ep := put_no dr (go_rest cg).2
            refine iteT ?_
            refine ⟨_, rfl, p2, _, rfl, .inr (SqT.of h26), rfl, _, rfl, ?_⟩
            rw [show decide (V.int ((xr.length : Nat) : Int) = V.int 3) = decide (xr.length = 3) from dec_int _ 3, lr]
            by_cases c3 : dr.length = 3
            · rw [decide_eq_true c3]
              refine iteT ?_
              obtain ⟨x1, x2, x3, b, c, e, rfl, rfl, hb, hc, he⟩ := three t1 c3
              have eo : (pGive wd [b, c, e] || pPut wd [b, c, e] || pGo wd [b, c, e]) = (nameD b && (nameD c && (if wd = "wait" then noneB e || expB 5 e else listB (expB 5) e))) := by
                rw [eg, ep]
                unfold pGo
                rw [decide_eq_true cg, Bool.true_and]
                rfl
              rw [eo, eg, ep]
              refine ⟨_, rfl, p2, _, 0, _, rfl, rfl, SqT.of h26, atI_nat rfl, x1, b, rfl, hb.same s56, ym b (by simp), fun H7 s7 => ⟨_, rfl, ?_⟩⟩
              have h27 := s7 _ _ h26
              cases cb : nameD b with
              | false => exact iteF ⟨rfl, s56.trans s7⟩
              | true =>
                refine iteT ?_
                refine ⟨_, rfl, p2, _, 1, _, rfl, rfl, SqT.of h27, atI_nat (j := 1) rfl, x2, c, rfl, hc.same (s56.trans s7), ym c (by simp), fun H8 s8 => ⟨_, rfl, ?_⟩⟩
                have s58 := s56.trans (s7.trans s8)
                have h28 := s8 _ _ h27
                cases cc : nameD c with
                | false => exact iteF ⟨rfl, s58⟩
                | true =>
                  refine iteT ?_
                  refine ⟨_, rfl, p2, _, 2, _, rfl, rfl, SqT.of h28, atI_nat (j := 2) rfl, x3, e, rfl, he.same s58, ym e (by simp), fun H9 s9 => ?_⟩
                  have s59 := s58.trans s9
                  have h29 := s9 _ _ h28
                  refine ⟨_, rfl, rfl, _, rfl, ?_⟩
                  rw [dec_str]
                  by_cases cw : wd = "wait"
                  · rw [decide_eq_true cw, if_pos cw]
                    refine iteT ?_
                    refine ⟨_, rfl, p2, _, 2, _, rfl, rfl, SqT.of h29, atI_nat (j := 2) rfl, rfl, _, rfl, ?_⟩
                    rw [non_iff he]
                    cases cn : noneB e with
                    | true => exact ⟨rfl, s59⟩
                    | false =>
                      refine ⟨_, rfl, p2, _, 2, _, rfl, rfl, SqT.of h29, atI_nat (j := 2) rfl, x3, e, rfl, he.same s59, ym e (by simp), fun H10 s10 => ?_⟩
                      exact ⟨rfl, s59.trans s10⟩
                  · rw [decide_eq_false cw, if_neg cw]
                    exact iteF ⟨rfl, s59⟩
            · rw [decide_eq_false c3, go_len c3, Bool.or_false]
              exact iteF ⟨rfl, s56⟩
          · rw [decide_eq_false cg, go_no dr cg, Bool.or_false]
            exact iteF ⟨rfl, s56⟩
        rintro σ6 H6 ⟨rfl, s6⟩
        rw [← plain_sum]
        refine ⟨(by show 2 ≤ sizeLine; decide), fun l nl => ?_⟩
        have s7 := same_new nl (.lst [V.int 999, .int 1])
        have e7 := upd_same (H := H6) (a := l) (o := .lst [V.int 999, .int 1])
        generalize upd H6 l (.lst [V.int 999, .int 1]) = H7 at s7 e7 ⊢
        have s17 := s1.trans (s6.trans s7)
        refine ⟨_, rfl, .inr ⟨_, rfl, ?_⟩⟩
        cases cp : plainB (.tuple (.str wd :: dr)) with
        | false => exact ⟨l, _, 0, _, rfl, rfl, SqL.of e7, atI_nat rfl, q 999 H7 s17 (takes_if hif cp)⟩
        | true =>
          have ih : ifHeadB (.tuple (.str wd :: dr)) = false := by
            rw [ifHead_str]
            by_cases ci : wd = "if"
            · rw [if_plain ci] at cp
              cases cp
            · rw [decide_eq_false ci, Bool.false_and]
          exact ⟨l, _, 1, _, rfl, rfl, SqL.of e7, atI_nat (j := 1) rfl, q 1 H7 s17 (takes_plain ih cp)⟩
      | int i => exact ⟨_, rfl, p, _, 0, _, rfl, rfl, SqT.of ha, atI_nat rfl, _, _, _, _, false, rfl, .ty "str", .base (.int i), kit_ty (by decide +kernel), _, rfl, iteT (nos rfl)⟩
      | bl b => exact ⟨_, rfl, p, _, 0, _, rfl, rfl, SqT.of ha, atI_nat rfl, _, _, _, _, false, rfl, .ty "str", .base (.bl b), kit_ty (by decide +kernel), _, rfl, iteT (nos rfl)⟩
      | non => exact ⟨_, rfl, p, _, 0, _, rfl, rfl, SqT.of ha, atI_nat rfl, _, _, _, _, false, rfl, .ty "str", .base .non, kit_ty (by decide +kernel), _, rfl, iteT (nos rfl)⟩
      | lst h _ => exact ⟨_, rfl, p, _, 0, _, rfl, rfl, SqT.of ha, atI_nat rfl, _, _, _, _, false, rfl, .ty "str", .base (.lst h), kit_ty (by decide +kernel), _, rfl, iteT (nos rfl)⟩
      | tup h _ => exact ⟨_, rfl, p, _, 0, _, rfl, rfl, SqT.of ha, atI_nat rfl, _, _, _, _, false, rfl, .ty "str", .base (.tup h), kit_ty (by decide +kernel), _, rfl, iteT (nos rfl)⟩
  | int i => exact ⟨_, rfl, _, _, _, _, false, rfl, .ty "tuple", .base (.int i), kit_ty (by decide +kernel), _, rfl, iteT (no H (Same.refl H) rfl rfl)⟩
  | bl b => exact ⟨_, rfl, _, _, _, _, false, rfl, .ty "tuple", .base (.bl b), kit_ty (by decide +kernel), _, rfl, iteT (no H (Same.refl H) rfl rfl)⟩
  | non => exact ⟨_, rfl, _, _, _, _, false, rfl, .ty "tuple", .base .non, kit_ty (by decide +kernel), _, rfl, iteT (no H (Same.refl H) rfl rfl)⟩
  | str x => exact ⟨_, rfl, _, _, _, _, false, rfl, .ty "tuple", .base (.str x), kit_ty (by decide +kernel), _, rfl, iteT (no H (Same.refl H) rfl rfl)⟩
  | lst h _ => exact ⟨_, rfl, _, _, _, _, false, rfl, .ty "tuple", .base (.lst h), kit_ty (by decide +kernel), _, rfl, iteT (no H (Same.refl H) rfl rfl)⟩
end
end SH

set_option Elab.async false
set_option linter.all false
set_option maxRecDepth 100000
namespace SH
open PySem L2
abbrev sWorkL : Stmt := topS 59
theorem scWorkL : FnScope ["_law_thing", "_law_title", "_law_names_here", "_law_room", "_law_rows_here"] ["_law_thing"] (defScope sWorkL) := ⟨rfl, rfl, rfl, by decide +kernel, rfl, by decide +kernel, by decide +kernel⟩
theorem work_nostr {a b c d e : PyData} (h : strQ a = false) : workB (.tuple [a, b, c, d, e]) = false := by
  show (strB "work" a && _) = false
  rw [strB_no _ h]
  rfl
theorem names_list {ds : List PyData} : namesD (.tuple ds) = (listB nameD (.tuple ds) && decide (setLen ds = ds.length)) := by
  show (decide (ds.length ≤ 4) && (ds.all nameD && _)) = ((decide (ds.length ≤ 4) && ds.all nameD) && _)
  rw [Bool.and_assoc]
theorem names_no {d : PyData} (h : listB nameD d = false) : namesD d = false := by
  cases d with
  | tuple ds => rw [names_list, h, Bool.false_and]
  | _ => rfl
section
variable {P : Program} {w : World} {K : PySem.W.Frag} {mg : Str → Option Value} {base : Heap}
theorem countLs {f1 f2 aT aL aN : Addr} {d1 d2 dT dL dN : FuncData} (F1 : Fun K "_law_row_count" "_law_row_count" sRowCL f1 d1) (F2 : Fun K "_law_count" "_law_count" sCountL f2 d2) (m1 : mg "_law_row_count" = some (.ref f1)) (m2 : mg "_law_count" = some (.ref f2)) (b1 : Binds K d1 ["_law_thing", "_law_nested"] []) (b2 : Binds K d2 ["_law_thing", "_law_nested"] [])
    (LT : Fk P w K mg base 68 "_law_is_tree" aT dT ["_law_thing"] (spAny (expB 5))) (LN : Fk P w K mg base 2 "_law_is_name" aN dN ["_law_thing"] (spAny nameD)) (LL : Fk P w K mg base 69 "_law_is_list" aL dL ["_law_thing", "_law_many", "_law_is_one"] (spListL aT (expB 5))) (T : Bi mg) (mt : mg "tuple" = none) (q_sum : mg "sum" = none) :
    ∀ n : Nat, FnOk P w K mg base CX0 (2 * n + 72) f2 d2 ["_law_thing", "_law_nested"] (spCountL n)
  | 0 => ok_countL F2 ⟨ok_rowCL (k := 70) (by omega) F1 LT LT.m LN LL (fun h => absurd h (by decide)) m2 F2.kp b2 T mt, m1, F1.kp, b1⟩ T mt q_sum
  | n + 1 => ok_countL (k := 2 * n + 73) F2 ⟨ok_rowCL (k := 2 * n + 72) (by omega) F1 LT LT.m LN LL (fun _ => countLs F1 F2 m1 m2 b1 b2 LT LN LL T mt q_sum n) m2 F2.kp b2 T mt, m1, F1.kp, b1⟩ T mt q_sum
theorem ok_workL {f aN aL aC aW : Addr} {fd dN dL dC dW : FuncData} (F : Fun K "_law_is_work" "_law_is_work" sWorkL f fd) (LN : Fk P w K mg base 2 "_law_is_name" aN dN ["_law_thing"] (spAny nameD)) (mN : mg "_law_is_name" = some (.ref aN)) (LL : Fk P w K mg base 3 "_law_is_list" aL dL ["_law_thing", "_law_many", "_law_is_one"] (spListL aN nameD)) (LC : Fk P w K mg base 78 "_law_count" aC dC ["_law_thing", "_law_nested"] (spCountL 3)) (LW : Fk P w K mg base 1 "_law_whole" aW dW ["_law_thing"] spWhD) (T : Bi mg) (mt : mg "tuple" = none) (msx : mg "set" = none) : FnOk P w K mg base CX0 79 f fd ["_law_thing"] (spAny workB) := by
  refine F.ok scWorkL (fun vs H Q E h => ?_) (fun cdv A outer s H vs Q E hr h => ?_)
  · obtain ⟨v, d, rfl, _⟩ := h
    rfl
  obtain ⟨v, d, rfl, hd, hy, q⟩ := h
  refine ⟨_, (pss_cons (ps_if (PW.pt (pw_or (pt_not (pt_val (pe_callB call_isi (by rfl) T.isinstance (by decide +kernel) (pa_cons (pv 0) (pa_cons (pe_bltn (v := .ty "tuple") (by rfl) mt (by decide +kernel) rfl) pa_nil))))) (pw_or (pt_cmpR op_ne (pe_callB call_len_seq (by rfl) T.len (by decide +kernel) (pa_cons (pv 0) pa_nil)) pe_int (nomark _)) (pw_or (pt_not (pt_val (pe_callB call_isi (by rfl) T.isinstance (by decide +kernel) (pa_cons (pe_ix ix_tup (pv 0) pe_int (fun _ _ => rfl)) (pa_cons (pe_bltn (v := .ty "str") (by rfl) T.str (by decide +kernel) rfl) pa_nil))))) (pw_or1 (pt_cmpR op_ne (pe_ix ix_tup (pv 0) pe_int (fun _ _ => rfl)) pe_str (nomark _)))))))
      (pss_one (ps_ret pe_bl))
      pss_nil)
    (pss_cons (ps_asg (pe_slice sl_tup (pv 0) (po_some pe_int) po_none) (pg_tup rfl (pgs_cons (pg_name (i := 1) scWorkL.nd rfl (.inl rfl)) (pgs_cons (pg_name (i := 2) scWorkL.nd rfl (.inl rfl)) (pgs_cons (pg_name (i := 3) scWorkL.nd rfl (.inl rfl)) (pgs_cons (pg_name (i := 4) scWorkL.nd rfl (.inl rfl)) pgs_nil))))))
    (pss_cons (ps_if (PW.pt (pw_or (pt_not (pt_val (pe_call LN.G (hr.mono (by omega)) (by rfl) LN.m LN.k LN.b .nil pass0 (pa_cons (pv 1) pa_nil)))) (pw_or (pt_not (pt_val (pe_call LL.G (hr.mono (by omega)) (by rfl) LL.m LL.k LL.b .nil pass0 (pa_cons (pv 2) (pa_cons pe_int (pa_cons (pe_glob (v := .ref aN) rfl mN rfl) pa_nil)))))) (pw_or1 (pt_cmpR op_ne (pe_lenTxt (by rfl) T.len (by rfl) msx (pv 2)) (pe_callB call_len_seq (by rfl) T.len (by decide +kernel) (pa_cons (pv 2) pa_nil)) (nomark _))))))
      (pss_one (ps_ret pe_bl))
      pss_nil)
    (pss_one (ps_ret (pe_and (pe_call LW.G (hr.mono (by omega)) (by rfl) LW.m LW.k LW.b .nil pass0 (pa_cons (pv 3) pa_nil)) (pe_and (pe_chain op_le op_le pe_int (pv 3) pe_int) (pe_one (pe_cmpR op_le (pe_call LC.G (hr.mono (by omega)) (by rfl) LC.m LC.k LC.b .nil pass0 (pa_cons (pv 4) (pa_cons pe_int pa_nil))) pe_int (nomark _)))))))))), ?_⟩
  have hs : sizeLine = 16777216 := by decide
  have no : ∀ H', Same H H' → workB d = false → Q (.bl false) H' := fun H' s' h => by
    have := q H' s'
    rw [h] at this
    exact this
  cases c5 : tupN 5 d with
  | false =>
    cases hd with
    | @tup p xs ds ha t =>
      have hz := hy.len
      refine ⟨_, rfl, _, _, _, _, true, rfl, .ty "tuple", .base (.tup ha), kit_ty (by decide +kernel), _, rfl, ?_⟩
      refine iteF ?_
      refine ⟨_, rfl, p, _, rfl, .inr (SqT.of ha), rfl, _, rfl, ?_⟩
      rw [show decide (V.int ((xs.length : Nat) : Int) = V.int 5) = decide (xs.length = 5) from dec_int _ 5, t.len, show decide (ds.length = 5) = false from c5]
      exact iteT (no H (Same.refl H) (work_no c5))
    | int i => exact ⟨_, rfl, _, _, _, _, false, rfl, .ty "tuple", .base (.int i), kit_ty (by decide +kernel), _, rfl, iteT (no H (Same.refl H) rfl)⟩
    | bl b => exact ⟨_, rfl, _, _, _, _, false, rfl, .ty "tuple", .base (.bl b), kit_ty (by decide +kernel), _, rfl, iteT (no H (Same.refl H) rfl)⟩
    | non => exact ⟨_, rfl, _, _, _, _, false, rfl, .ty "tuple", .base .non, kit_ty (by decide +kernel), _, rfl, iteT (no H (Same.refl H) rfl)⟩
    | str x => exact ⟨_, rfl, _, _, _, _, false, rfl, .ty "tuple", .base (.str x), kit_ty (by decide +kernel), _, rfl, iteT (no H (Same.refl H) rfl)⟩
    | lst h _ => exact ⟨_, rfl, _, _, _, _, false, rfl, .ty "tuple", .base (.lst h), kit_ty (by decide +kernel), _, rfl, iteT (no H (Same.refl H) rfl)⟩
  | true =>
    obtain ⟨p, x, y, z, u, t, a, nm, ns, rm, rs, rfl, rfl, hp, hx, hyb, hz, hu, ht⟩ := tup5 hd c5
    refine ⟨_, rfl, _, _, _, _, true, rfl, .ty "tuple", .base (.tup hp), kit_ty (by decide +kernel), _, rfl, ?_⟩
    refine iteF ?_
    refine ⟨_, rfl, p, _, rfl, .inr (SqT.of hp), rfl, _, rfl, ?_⟩
    rw [show decide (V.int ((([x, y, z, u, t] : List V).length : Nat) : Int) = V.int 5) = true from decide_eq_true rfl]
    refine iteF ?_
    have nos : strQ a = false → Q (.bl false) H := fun h => no H (Same.refl H) (work_nostr h)
    cases hx with
    | str wd =>
      refine ⟨_, rfl, p, _, 0, _, rfl, rfl, SqT.of hp, atI_nat rfl, _, _, _, _, true, rfl, .ty "str", .base (.str wd), kit_ty (by decide +kernel), _, rfl, ?_⟩
      refine iteF ?_
      refine ⟨_, rfl, p, _, 0, _, rfl, rfl, SqT.of hp, atI_nat rfl, rfl, _, rfl, ?_⟩
      rw [dec_str]
      have ee : workB (.tuple [.str wd, nm, ns, rm, rs]) = (decide (wd = "work") && (nameD nm && (namesD ns && (withinB 1000 rm && (rowsD (rowD 3) rs 40).isSome)))) := by
        show (strB "work" (.str wd) && _) = _
        rw [strB_str]
      by_cases cw : wd = "work"
      · rw [decide_eq_true cw] at ee ⊢
        rw [Bool.true_and] at ee
        rw [ee] at no
        refine iteF ?_
        refine ⟨_, rfl, 1, rfl, p, _, rfl, SqT.of hp, (show ¬ (HT.sIx 5 0 (some 1) = 0 ∧ HT.sIx 5 5 none = 5) by decide), fun p2 hp2 => ?_⟩
        have s1 := same_new hp2 (.tup [y, z, u, t])
        refine ⟨p2, _, rfl, SqT.of upd_same, rfl, _, _, rfl, _, _, rfl, _, _, rfl, _, _, rfl, rfl, ?_⟩
        refine ⟨_, rfl, y, nm, rfl, hyb.same s1, hy.mem nm (by simp), fun H2 s2 => ⟨_, rfl, ?_⟩⟩
        have s12 := s1.trans s2
        cases cn : nameD nm with
        | false =>
          rw [cn] at no
          exact iteT (no H2 s12 rfl)
        | true =>
          rw [cn, Bool.true_and] at no ee
          refine iteF ?_
          refine ⟨_, rfl, z, ns, rfl, hz.same s12, hy.mem ns (by simp), fun H3 s3 => ⟨_, rfl, ?_⟩⟩
          have s13 := s12.trans s3
          cases cl : listB nameD ns with
          | false =>
            rw [names_no cl] at no
            exact iteT (no H3 s13 rfl)
          | true =>
            refine iteF ?_
            have hz3 := hz.same s13
            cases hz3 with
            | @tup pn xs ds hn tn =>
              have cl' : (decide (ds.length ≤ 4) && ds.all nameD) = true := cl
              rw [Bool.and_eq_true, decide_eq_true_eq] at cl'
              obtain ⟨ts, rfl, rfl⟩ := strs_of tn cl'.2
              have l4 := cl'.1
              rw [List.length_map] at l4
              refine ⟨_, rfl, pn, ts, rfl, SqT.of hn, by omega, ?_⟩
              refine ⟨_, rfl, pn, _, rfl, .inr (SqT.of hn), rfl, _, rfl, ?_⟩
              rw [names_list, cl, Bool.true_and] at ee no
              have e3 : decide (V.int (((SHSet.dd ts).length : Nat) : Int) = V.int (((ts.map V.str).length : Nat) : Int)) = decide (setLen (ts.map PyData.str) = (ts.map PyData.str).length) := by
                unfold setLen
                rw [strsOf_map, dec_int, List.length_map, List.length_map]
              rw [e3]
              cases cd : decide (setLen (ts.map PyData.str) = (ts.map PyData.str).length) with
              | false =>
                rw [cd] at no
                exact iteT (no H3 s13 rfl)
              | true =>
                rw [cd, Bool.true_and] at no ee
                refine iteF ?_
                refine ⟨_, rfl, u, rm, rfl, hu.same s13, _, rfl, ?_⟩
                have hu3 := hu.same s13
                have bad : withinB 1000 rm = false → Q (.bl false) H3 := fun h => no H3 s13 (by rw [h]; rfl)
                cases hu3 with
                | int i =>
                  refine iteT ?_
                  refine ⟨_, rfl, _, _, rfl, rfl, _, rfl, ?_⟩
                  by_cases h0 : 0 ≤ i
                  · rw [decide_eq_true h0]
                    refine iteT ?_
                    refine ⟨_, _, rfl, rfl, _, rfl, ?_⟩
                    by_cases h1 : i ≤ 1000
                    · rw [decide_eq_true h1]
                      refine iteT ?_
                      have ew : withinB 1000 (.int i) = true := by
                        show (decide (0 ≤ i) && decide (i ≤ 1000)) = true
                        rw [decide_eq_true h0, decide_eq_true h1]
                        rfl
                      rw [ew, Bool.true_and] at ee
                      refine ⟨_, rfl, t, rs, 0, rfl, rfl, ht.same s13, hy.mem rs (by simp), fun c H4 s4 tc => ?_⟩
                      refine ⟨_, _, rfl, rfl, ?_⟩
                      have q4 := q H4 (s13.trans s4)
                      have e40 : workB (.tuple [.str wd, nm, .tuple (ts.map PyData.str), .int i, rs]) = decide ((c : Int) ≤ 40) := by
                        rw [ee, tc 40 (by omega)]
                        by_cases z : c ≤ 40
                        · rw [if_pos z, decide_eq_true (by omega)]
                          rfl
                        · rw [if_neg z, decide_eq_false (by omega)]
                          rfl
                      rw [e40] at q4
                      exact q4
                    · rw [decide_eq_false h1]
                      exact iteF (bad (by show (decide (0 ≤ i) && decide (i ≤ 1000)) = false; rw [decide_eq_false h1, Bool.and_false]))
                  · rw [decide_eq_false h0]
                    exact iteF ⟨false, rfl, iteF (bad (by show (decide (0 ≤ i) && decide (i ≤ 1000)) = false; rw [decide_eq_false h0, Bool.false_and]))⟩
                | non => exact iteF (bad rfl)
                | bl b => exact iteF (bad rfl)
                | str x => exact iteF (bad rfl)
                | lst h _ => exact iteF (bad rfl)
                | tup h _ => exact iteF (bad rfl)
            | _ => cases cl
      · rw [decide_eq_false cw] at ee ⊢
        exact iteT (no H (Same.refl H) ee)
    | int i => exact ⟨_, rfl, p, _, 0, _, rfl, rfl, SqT.of hp, atI_nat rfl, _, _, _, _, false, rfl, .ty "str", .base (.int i), kit_ty (by decide +kernel), _, rfl, iteT (nos rfl)⟩
    | bl b => exact ⟨_, rfl, p, _, 0, _, rfl, rfl, SqT.of hp, atI_nat rfl, _, _, _, _, false, rfl, .ty "str", .base (.bl b), kit_ty (by decide +kernel), _, rfl, iteT (nos rfl)⟩
    | non => exact ⟨_, rfl, p, _, 0, _, rfl, rfl, SqT.of hp, atI_nat rfl, _, _, _, _, false, rfl, .ty "str", .base .non, kit_ty (by decide +kernel), _, rfl, iteT (nos rfl)⟩
    | lst h _ => exact ⟨_, rfl, p, _, 0, _, rfl, rfl, SqT.of hp, atI_nat rfl, _, _, _, _, false, rfl, .ty "str", .base (.lst h), kit_ty (by decide +kernel), _, rfl, iteT (nos rfl)⟩
    | tup h _ => exact ⟨_, rfl, p, _, 0, _, rfl, rfl, SqT.of hp, atI_nat rfl, _, _, _, _, false, rfl, .ty "str", .base (.tup h), kit_ty (by decide +kernel), _, rfl, iteT (nos rfl)⟩
end
end SH

set_option Elab.async false
set_option linter.all false
set_option maxRecDepth 100000
namespace SH
open PySem L2
/-- the heap without some objects -/
def msk (S : List Addr) (H : Hp) : Hp := fun a => if a ∈ S then none else H a
theorem msk_same (S : List Addr) (H : Hp) : Same (msk S H) H := fun a o e => by
  unfold msk at e
  by_cases z : a ∈ S
  · rw [if_pos z] at e; cases e
  · rw [if_neg z] at e; exact e
theorem msk_of {S : List Addr} {H H' : Hp} (U : ∀ a o, a ∉ S → H a = some o → H' a = some o) : Same (msk S H) (msk S H') := fun a o e => by
  unfold msk at e ⊢
  by_cases z : a ∈ S
  · rw [if_pos z] at e; cases e
  · rw [if_neg z] at e ⊢; exact U _ _ z e
theorem msk_but {S : List Addr} {b : Addr} {H H' : Hp} (hb : b ∈ S) (U : But b H H') : Same (msk S H) (msk S H') := msk_of fun a o n e => U a o (fun z => n (z ▸ hb)) e
theorem msk_keep {S : List Addr} {H H' : Hp} (U : Same H H') : Same (msk S H) (msk S H') := msk_of fun a o _ e => U a o e
theorem msk_upd {S : List Addr} {H : Hp} {a : Addr} {o : HO} (h : a ∈ S) : Same (msk S H) (msk S (upd H a o)) := msk_of fun x u n e => by rw [upd_ne (fun z : x = a => n (by rw [z]; exact h))]; exact e
theorem msk_at {S : List Addr} {a : Addr} {H : Hp} {o : HO} (n : a ∉ S) (e : H a = some o) : msk S H a = some o := by
  unfold msk
  rw [if_neg n]
  exact e
theorem msk_less {S : List Addr} {a : Addr} {H : Hp} : Same (msk (a :: S) H) (msk S H) := fun x o e => by
  unfold msk at e ⊢
  by_cases z : x ∈ a :: S
  · rw [if_pos z] at e; cases e
  · rw [if_neg z] at e
    rw [if_neg (fun y => z (List.mem_cons_of_mem _ y))]
    exact e
/-- all of these are in the heap -/
def InH (S : List Addr) (H : Hp) : Prop := ∀ a ∈ S, H a ≠ none
theorem InH.same {S : List Addr} {H H' : Hp} (h : InH S H) (s : Same H H') : InH S H' := fun a ha => by
  cases e : H a with
  | none => exact absurd e (h a ha)
  | some o => rw [s _ _ e]; exact fun z => nomatch z
theorem InH.but {S : List Addr} {b : Addr} {H H' : Hp} {n : Nat} (h : InH S H) (s : But b H H') (hb : Bag H' b n) : InH S H' := fun a ha => by
  by_cases z : a = b
  · obtain ⟨ys, e⟩ := hb.lst
    rw [z, e]
    exact fun z => nomatch z
  · cases e : H a with
    | none => exact absurd e (h a ha)
    | some o => rw [s _ _ z e]; exact fun z => nomatch z
theorem InH.new {S : List Addr} {H : Hp} {a : Addr} (h : InH S H) (e : H a = none) : a ∉ S := fun z => h a z e
theorem bag_ne {b a : Addr} {H : Hp} {n : Nat} (hB : Bag H b n) (h : H a = none) : a ≠ b := fun z => by obtain ⟨ys, e⟩ := hB.lst; rw [z, e] at h; cases h
theorem bag_neT {b a : Addr} {H : Hp} {n : Nat} {xs : List V} (hB : Bag H b n) (h : H a = some (.tup xs)) : a ≠ b := fun z => by obtain ⟨ys, e⟩ := hB.lst; rw [z, e] at h; cases h
abbrev sAnyL : Stmt := topS 50
theorem scAnyL : FnScope ["_law_bag_here", "_law_deep_here", "_law_some", "_law_way", "_law_found", "_law_k"] ["_law_bag_here", "_law_deep_here"] (defScope sAnyL) := ⟨rfl, rfl, rfl, by decide +kernel, rfl, by decide +kernel, by decide +kernel⟩
def B30 : Nat := 10 ^ 30
def nA : Nat → Nat
  | 0 => 2
  | m + 1 => 3 + 5 * nA m
def wA : Nat → Nat
  | 0 => 600
  | m + 1 => 3 + 5 * (wA m + 2)
theorem wA_ge : ∀ m, 600 ≤ wA m
  | 0 => Nat.le_refl _
  | m + 1 => by
    have := wA_ge m
    show 600 ≤ 3 + 5 * (wA m + 2)
    omega
theorem nA_ge : ∀ m, 2 ≤ nA m
  | 0 => Nat.le_refl _
  | m + 1 => by
    show 2 ≤ 3 + 5 * nA m
    omega
def spAnyD (m : Nat) : Sp := fun vs H Q _ => ∃ (b : Addr) (n : Nat) (S : List Addr), vs = [.ref b, .int (m : Nat)] ∧ b ∈ S ∧ InH S H ∧ Bag H b (n + nA m) ∧ ∀ (v : V) (d : PyData) (H' : Hp), DpU (msk S H') v d → Pl B30 (m + 2) (wA m) d → Bag H' b n → But b H H' → Q v H'
def leafs : List PyData := [.none, .bool true, .bool false, .int 0, .int 1, .int (-1), .int (10 ^ 29), .int (10 ^ 30), .str "", .str "a", .str "work", .str "put", .str "number", .str "name", .str "+", .str "ab c",
  .tuple [.str "number", .int 1], .tuple [.str "name", .str "x"], .tuple [.str "give", .tuple [.str "number", .int 0]], .tuple [.str "work", .str "f", .tuple [], .int 0, .tuple []], .tuple [], .list []]
theorem leafs_pl : ∀ d ∈ leafs, Pl B30 2 600 d := by
  have h : leafs.all (fun d => asc B30 d && decide (d.depth ≤ 2) && decide (wt d ≤ 600)) = true := by decide +kernel
  intro d hd
  have := List.all_eq_true.mp h d hd
  rw [Bool.and_eq_true, Bool.and_eq_true, decide_eq_true_eq, decide_eq_true_eq] at this
  exact ⟨this.1.1, this.1.2, this.2⟩
section
variable {P : Program} {w : World} {K : PySem.W.Frag} {mg : Str → Option Value} {base : Heap}
set_option maxHeartbeats 1000000 in
theorem ok_anyL {m : Nat} {f t : Addr} {fd td : FuncData} (F : Fun K "_law_any" "_law_any" sAnyL f fd) (TK : Fk P w K mg base 1 "_law_take" t td ["_law_bag_here", "_law_many"] spTake) (SI : 1 ≤ m → FnOk P w K mg base CX0 (m + 1) f fd ["_law_bag_here", "_law_deep_here"] (spAnyD (m - 1))) (mF : mg "_law_any" = some (.ref f)) (bF : Binds K fd ["_law_bag_here", "_law_deep_here"] []) (T : Bi mg) (mt : mg "tuple" = none) : FnOk P w K mg base CX0 (m + 2) f fd ["_law_bag_here", "_law_deep_here"] (spAnyD m) := by
  refine F.ok scAnyL (fun vs H Q E h => ?_) (fun cdv A outer s H vs Q E hr h => ?_)
  · obtain ⟨b, n, S, rfl, _⟩ := h
    rfl
  obtain ⟨b, n, S, rfl, hbS, hS, hB, q⟩ := h
  have BG : ∃ sp, FnOk P w K mg base CX0 (m + 1) f fd ["_law_bag_here", "_law_deep_here"] sp ∧ (1 ≤ m → sp = spAnyD (m - 1)) := by
    by_cases h1 : 1 ≤ m
    · exact ⟨_, SI h1, fun _ => rfl⟩
    · refine ⟨fun _ _ _ _ => False, ⟨fun _ _ _ _ h => h.elim, fun _ _ _ _ _ _ _ _ _ _ _ _ _ h => h.elim⟩, fun z => absurd z h1⟩
  obtain ⟨spB, GB, eB⟩ := BG
  have AY : Fk P w K mg base (m + 1) "_law_any" f fd ["_law_bag_here", "_law_deep_here"] spB := ⟨GB, mF, F.kp, bF⟩
  refine ⟨_, (pss_cons (ps_set (i := 2) scAnyL.nd rfl (Or.inl rfl) (pe_lst (pa_cons pe_non (pa_cons pe_bl (pa_cons pe_bl (pa_cons pe_int (pa_cons pe_int (pa_cons (pe_un un_neg pe_int) (pa_cons (pe_op op_pow pe_int pe_int) (pa_cons (pe_op op_pow pe_int pe_int) (pa_cons pe_str (pa_cons pe_str (pa_cons pe_str (pa_cons pe_str (pa_cons pe_str (pa_cons pe_str (pa_cons pe_str (pa_cons pe_str pa_nil))))))))))))))))))
    (pss_cons (ps_set (i := 2) scAnyL.nd rfl (Or.inl rfl) (pe_op op_cat (pv 2) (pe_lst (pa_cons (pe_tup (pa_cons pe_str (pa_cons pe_int pa_nil))) (pa_cons (pe_tup (pa_cons pe_str (pa_cons pe_str pa_nil))) (pa_cons (pe_tup (pa_cons pe_str (pa_cons (pe_tup (pa_cons pe_str (pa_cons pe_int pa_nil))) pa_nil))) (pa_cons (pe_tup (pa_cons pe_str (pa_cons pe_str (pa_cons (pe_tup pa_nil) (pa_cons pe_int (pa_cons (pe_tup pa_nil) pa_nil)))))) (pa_cons (pe_tup pa_nil) (pa_cons (pe_lst pa_nil) pa_nil)))))))))
    (pss_cons (ps_set (i := 3) scAnyL.nd rfl (Or.inl rfl) (pe_call TK.G (hr.mono (by omega)) (by rfl) TK.m TK.k TK.b .nil pass0 (pa_cons (pv 0) (pa_cons pe_int pa_nil))))
    (pss_cons (ps_if (PW.pt (pw_and (pt_cmpR op_gt (pv 1) pe_int (nomark _)) (pw_and1 (pt_cmpR op_lt (pv 3) pe_int (nomark _)))))
      (pss_cons (ps_setLc (i := 4) (own := [("_law_k", 5)]) (g := gName 5) (tt := tYes) (by rfl) scAnyL.nd rfl rfl (sw_true rfl rfl rfl (by decide +kernel)) (pi_range1 (by rfl) T.range (pa_cons (pe_call TK.G (hr.mono (by omega)) (by rfl) TK.m TK.k TK.b .nil pass0 (pa_cons (pv 0) (pa_cons pe_int pa_nil))) pa_nil)) (blkOk_by (own := [("_law_k", 5)]) (N := ["_law_bag_here", "_law_deep_here", "_law_some", "_law_way", "_law_found", "_law_k"]) (sc := defScope sAnyL) (by decide +kernel)) (fun _ _ _ _ _ => pg_name (i := 5) scAnyL.nd rfl (Or.inl rfl)) (fun _ _ _ _ _ => pts_nil) (fun _ _ _ _ _ => (pe_call AY.G hr (by rfl) AY.m AY.k AY.b .nil pass0 (pa_cons (pv 0) (pa_cons (pe_op op_sub (pv 1) pe_int) pa_nil)))))
    (pss_one (ps_ret (pe_ifExp (pt_cmpR op_eq (pv 3) pe_int (nomark _)) (pv 4) (pe_callTy call_tuple_of (by rfl) mt (by decide +kernel) (pa_cons (pv 4) pa_nil))))))
      pss_nil)
    (pss_one (ps_ret (pe_ix ix_list (pv 2) (pe_call TK.G (hr.mono (by omega)) (by rfl) TK.m TK.k TK.b .nil pass0 (pa_cons (pv 0) (pa_cons pe_int pa_nil))) (fun _ _ => rfl)))))))), ?_⟩
  have hs : sizeLine = 16777216 := by decide
  have p29 : CPow 10 29 := ⟨by decide, by decide, by decide⟩
  have p30 : CPow 10 30 := ⟨by decide, by decide, by decide⟩
  refine ⟨_, rfl, _, _, rfl, rfl, p29, _, _, rfl, rfl, p30, (by show 16 ≤ sizeLine; decide), fun a1 n1 => ?_⟩
  have s1 := same_new n1 (.lst [V.non, V.bl true, V.bl false, V.int 0, V.int 1, V.int (-1), V.int ((10 : Int) ^ Int.toNat 29), V.int ((10 : Int) ^ Int.toNat 30), V.str "", V.str "a", V.str "work", V.str "put", V.str "number", V.str "name", V.str "+", V.str "ab c"])
  have e1 := upd_same (H := H) (a := a1) (o := (.lst [V.non, V.bl true, V.bl false, V.int 0, V.int 1, V.int (-1), V.int ((10 : Int) ^ Int.toNat 29), V.int ((10 : Int) ^ Int.toNat 30), V.str "", V.str "a", V.str "work", V.str "put", V.str "number", V.str "name", V.str "+", V.str "ab c"]))
  generalize upd H a1 (.lst [V.non, V.bl true, V.bl false, V.int 0, V.int 1, V.int (-1), V.int ((10 : Int) ^ Int.toNat 29), V.int ((10 : Int) ^ Int.toNat 30), V.str "", V.str "a", V.str "work", V.str "put", V.str "number", V.str "name", V.str "+", V.str "ab c"]) = H1 at s1 e1 ⊢
  have e1f : H1 a1 = some (.lst [V.non, V.bl true, V.bl false, V.int 0, V.int 1, V.int (-1), V.int (10 ^ 29), V.int (10 ^ 30), V.str "", V.str "a", V.str "work", V.str "put", V.str "number", V.str "name", V.str "+", V.str "ab c"]) := e1
  refine ⟨_, rfl, (by show 2 ≤ sizeLine; decide), fun a2 n2 => ?_⟩
  have s2 := same_new n2 (.tup [V.str "number", V.int 1])
  have e2 := upd_same (H := H1) (a := a2) (o := (.tup [V.str "number", V.int 1]))
  generalize upd H1 a2 (.tup [V.str "number", V.int 1]) = H2 at s2 e2 ⊢
  refine ⟨(by show 2 ≤ sizeLine; decide), fun a3 n3 => ?_⟩
  have s3 := same_new n3 (.tup [V.str "name", V.str "x"])
  have e3 := upd_same (H := H2) (a := a3) (o := (.tup [V.str "name", V.str "x"]))
  generalize upd H2 a3 (.tup [V.str "name", V.str "x"]) = H3 at s3 e3 ⊢
  refine ⟨(by show 2 ≤ sizeLine; decide), fun a4 n4 => ?_⟩
  have s4 := same_new n4 (.tup [V.str "number", V.int 0])
  have e4 := upd_same (H := H3) (a := a4) (o := (.tup [V.str "number", V.int 0]))
  generalize upd H3 a4 (.tup [V.str "number", V.int 0]) = H4 at s4 e4 ⊢
  refine ⟨(by show 2 ≤ sizeLine; decide), fun a5 n5 => ?_⟩
  have s5 := same_new n5 (.tup [V.str "give", V.ref a4])
  have e5 := upd_same (H := H4) (a := a5) (o := (.tup [V.str "give", V.ref a4]))
  generalize upd H4 a5 (.tup [V.str "give", V.ref a4]) = H5 at s5 e5 ⊢
  refine ⟨(by show 0 ≤ sizeLine; decide), fun a6 n6 => ?_⟩
  have s6 := same_new n6 (.tup [])
  have e6 := upd_same (H := H5) (a := a6) (o := (.tup []))
  generalize upd H5 a6 (.tup []) = H6 at s6 e6 ⊢
  refine ⟨(by show 0 ≤ sizeLine; decide), fun a7 n7 => ?_⟩
  have s7 := same_new n7 (.tup [])
  have e7 := upd_same (H := H6) (a := a7) (o := (.tup []))
  generalize upd H6 a7 (.tup []) = H7 at s7 e7 ⊢
  refine ⟨(by show 5 ≤ sizeLine; decide), fun a8 n8 => ?_⟩
  have s8 := same_new n8 (.tup [V.str "work", V.str "f", V.ref a6, V.int 0, V.ref a7])
  have e8 := upd_same (H := H7) (a := a8) (o := (.tup [V.str "work", V.str "f", V.ref a6, V.int 0, V.ref a7]))
  generalize upd H7 a8 (.tup [V.str "work", V.str "f", V.ref a6, V.int 0, V.ref a7]) = H8 at s8 e8 ⊢
  refine ⟨(by show 0 ≤ sizeLine; decide), fun a9 n9 => ?_⟩
  have s9 := same_new n9 (.tup [])
  have e9 := upd_same (H := H8) (a := a9) (o := (.tup []))
  generalize upd H8 a9 (.tup []) = H9 at s9 e9 ⊢
  refine ⟨(by show 0 ≤ sizeLine; decide), fun a10 n10 => ?_⟩
  have s10 := same_new n10 (.lst [])
  have e10 := upd_same (H := H9) (a := a10) (o := (.lst []))
  generalize upd H9 a10 (.lst []) = H10 at s10 e10 ⊢
  refine ⟨(by show 6 ≤ sizeLine; decide), fun a11 n11 => ?_⟩
  have s11 := same_new n11 (.lst [V.ref a2, V.ref a3, V.ref a5, V.ref a8, V.ref a9, V.ref a10])
  have e11 := upd_same (H := H10) (a := a11) (o := (.lst [V.ref a2, V.ref a3, V.ref a5, V.ref a8, V.ref a9, V.ref a10]))
  generalize upd H10 a11 (.lst [V.ref a2, V.ref a3, V.ref a5, V.ref a8, V.ref a9, V.ref a10]) = H11 at s11 e11 ⊢
  refine ⟨a1, a11, _, _, rfl, rfl, (s2.trans (s3.trans (s4.trans (s5.trans (s6.trans (s7.trans (s8.trans (s9.trans (s10.trans (s11)))))))))) _ _ e1f, e11, (by show 22 ≤ sizeLine; decide), fun a12 n12 => ?_⟩
  have s12 := same_new n12 (.lst ([V.non, V.bl true, V.bl false, V.int 0, V.int 1, V.int (-1), V.int (10 ^ 29), V.int (10 ^ 30), V.str "", V.str "a", V.str "work", V.str "put", V.str "number", V.str "name", V.str "+", V.str "ab c"] ++ [V.ref a2, V.ref a3, V.ref a5, V.ref a8, V.ref a9, V.ref a10]))
  have e12 := upd_same (H := H11) (a := a12) (o := .lst ([V.non, V.bl true, V.bl false, V.int 0, V.int 1, V.int (-1), V.int (10 ^ 29), V.int (10 ^ 30), V.str "", V.str "a", V.str "work", V.str "put", V.str "number", V.str "name", V.str "+", V.str "ab c"] ++ [V.ref a2, V.ref a3, V.ref a5, V.ref a8, V.ref a9, V.ref a10]))
  generalize upd H11 a12 (.lst ([V.non, V.bl true, V.bl false, V.int 0, V.int 1, V.int (-1), V.int (10 ^ 29), V.int (10 ^ 30), V.str "", V.str "a", V.str "work", V.str "put", V.str "number", V.str "name", V.str "+", V.str "ab c"] ++ [V.ref a2, V.ref a3, V.ref a5, V.ref a8, V.ref a9, V.ref a10])) = H12 at s12 e12 ⊢
  have s012 := s1.trans ((s2.trans (s3.trans (s4.trans (s5.trans (s6.trans (s7.trans (s8.trans (s9.trans (s10.trans (s11.trans (s12))))))))))))
  have fr : ∀ {a : Addr} {o : HO} {G : Hp}, Same H G → G a = none → H12 a = some o → msk S H12 a = some o := fun s h e => msk_at (fun z => hS _ z (s.free h)) e
  have hL : DpsU (msk S H12) ([V.non, V.bl true, V.bl false, V.int 0, V.int 1, V.int (-1), V.int (10 ^ 29), V.int (10 ^ 30), V.str "", V.str "a", V.str "work", V.str "put", V.str "number", V.str "name", V.str "+", V.str "ab c"] ++ [V.ref a2, V.ref a3, V.ref a5, V.ref a8, V.ref a9, V.ref a10]) leafs := (.cons .non (.cons (.bl _) (.cons (.bl _) (.cons (.int _) (.cons (.int _) (.cons (.int _) (.cons (.int _) (.cons (.int _) (.cons (.str _) (.cons (.str _) (.cons (.str _) (.cons (.str _) (.cons (.str _) (.cons (.str _) (.cons (.str _) (.cons (.str _) (.cons (.tup (fr s1 n2 ((s3.trans (s4.trans (s5.trans (s6.trans (s7.trans (s8.trans (s9.trans (s10.trans (s11.trans (s12)))))))))) _ _ e2)) (.cons (.str _) (.cons (.int _) .nil))) (.cons (.tup (fr (s1.trans (s2)) n3 ((s4.trans (s5.trans (s6.trans (s7.trans (s8.trans (s9.trans (s10.trans (s11.trans (s12))))))))) _ _ e3)) (.cons (.str _) (.cons (.str _) .nil))) (.cons (.tup (fr (s1.trans (s2.trans (s3.trans (s4)))) n5 ((s6.trans (s7.trans (s8.trans (s9.trans (s10.trans (s11.trans (s12))))))) _ _ e5)) (.cons (.str _) (.cons (.tup (fr (s1.trans (s2.trans (s3))) n4 ((s5.trans (s6.trans (s7.trans (s8.trans (s9.trans (s10.trans (s11.trans (s12)))))))) _ _ e4)) (.cons (.str _) (.cons (.int _) .nil))) .nil))) (.cons (.tup (fr (s1.trans (s2.trans (s3.trans (s4.trans (s5.trans (s6.trans (s7))))))) n8 ((s9.trans (s10.trans (s11.trans (s12)))) _ _ e8)) (.cons (.str _) (.cons (.str _) (.cons (.tup (fr (s1.trans (s2.trans (s3.trans (s4.trans (s5))))) n6 ((s7.trans (s8.trans (s9.trans (s10.trans (s11.trans (s12)))))) _ _ e6)) .nil) (.cons (.int _) (.cons (.tup (fr (s1.trans (s2.trans (s3.trans (s4.trans (s5.trans (s6)))))) n7 ((s8.trans (s9.trans (s10.trans (s11.trans (s12))))) _ _ e7)) .nil) .nil)))))) (.cons (.tup (fr (s1.trans (s2.trans (s3.trans (s4.trans (s5.trans (s6.trans (s7.trans (s8)))))))) n9 ((s10.trans (s11.trans (s12))) _ _ e9)) .nil) (.cons (.lst (fr (s1.trans (s2.trans (s3.trans (s4.trans (s5.trans (s6.trans (s7.trans (s8.trans (s9))))))))) n10 ((s11.trans (s12)) _ _ e10)) .nil) .nil))))))))))))))))))))))
  have B12 := (hB.same s012).less (m := (n + nA m - 1) + 1) (by have := nA_ge m; omega)
  have U12 : But b H H12 := But.of s012
  have nb12 : a12 ≠ b := bag_ne (hB.same (s1.trans (s2.trans (s3.trans (s4.trans (s5.trans (s6.trans (s7.trans (s8.trans (s9.trans (s10.trans (s11)))))))))))) n12
  refine ⟨_, rfl, b, 5, _, rfl, by decide, by decide, B12, fun way H13 w0 w5 B13 U13 => ?_⟩
  have e13 := U13 _ _ nb12 e12
  have hL13 := hL.same (msk_but hbS U13)
  have U013 := U12.trans U13
  have hS13 := hS.but U013 B13
  have pick : ∀ G, But b H13 G → Bag G b (n + 1) → tOp (rIxL K) (tVar 2) (tCall spTake [] E0 (tCons (tVar 0) (tCons (tC (V.int 22)) tNil))) [some (.ref b), some (.int (m : Nat)), some (.ref a12), some (.int way), none, none] G Q := fun G U B => by
    refine ⟨_, rfl, _, rfl, b, 22, n, rfl, by decide, by decide, B, fun k G2 k0 k22 B2 U2 => ?_⟩
    obtain ⟨kN, rfl⟩ : ∃ kN : Nat, k = (kN : Int) := ⟨k.toNat, (Int.toNat_of_nonneg k0).symm⟩
    have e14 := U2 _ _ nb12 (U _ _ nb12 e13)
    have hL14 := (hL13.same (msk_but hbS U)).same (msk_but hbS U2)
    obtain ⟨v, ev⟩ : ∃ v, ([V.non, V.bl true, V.bl false, V.int 0, V.int 1, V.int (-1), V.int (10 ^ 29), V.int (10 ^ 30), V.str "", V.str "a", V.str "work", V.str "put", V.str "number", V.str "name", V.str "+", V.str "ab c"] ++ [V.ref a2, V.ref a3, V.ref a5, V.ref a8, V.ref a9, V.ref a10])[kN]? = some v := ⟨_, List.getElem?_eq_getElem (by show kN < 22; omega)⟩
    obtain ⟨d, ed, hd⟩ := hL14.get ev
    refine ⟨a12, _, kN, v, rfl, rfl, SqL.of e14, atI_nat (j := kN) ev, ?_⟩
    exact q v d G2 hd ((leafs_pl d (List.mem_of_getElem? ed)).up (Nat.le_refl _) (by omega) (wA_ge m)) B2 (U013.trans (U.trans U2))
  have pickN : Bag H13 b (n + 1) := B13.less (by have := nA_ge m; omega)
  refine ⟨_, rfl, _, _, rfl, rfl, _, rfl, ?_⟩
  by_cases hm : (0 : Int) < (m : Nat)
  · rw [decide_eq_true hm]
    refine iteT ?_
    refine ⟨_, rfl, _, _, rfl, rfl, _, rfl, ?_⟩
    refine ite2 (fun c => ?_) (fun c => pick H13 (fun _ _ _ e => e) pickN)
    obtain ⟨m', rfl⟩ : ∃ m', m = m' + 1 := ⟨m - 1, by omega⟩
    obtain rfl := eB (by omega)
    have em : (((m' + 1 : Nat) : Int)) - 1 = ((m' : Nat) : Int) := by omega
    have B13' : Bag H13 b ((n + 1 + 5 * nA m') + 1) := B13.less (by show _ ≤ n + (3 + 5 * nA m') - 1; omega)
    refine ⟨_, rfl, b, 6, _, rfl, by decide, by decide, B13', fun many H14 k0 k6 B14 U14 => ?_⟩
    refine ⟨_, rfl, by omega, by omega, ?_⟩
    intro D hD
    have hS14 := hS13.but U14 B14
    have nDS := hS14.new hD
    have nDb := bag_ne B14 hD
    refine lc_range (lo := 0) (n := many.toNat) (fun j H' => ∃ (ws : List V) (ds : List PyData), H' D = some (.lst ws) ∧ DpsU (msk (D :: S) H') ws ds ∧ ds.length = j ∧ (∀ d ∈ ds, Pl B30 (m' + 2) (wA m') d) ∧ Bag H' b (n + 1 + (5 - j) * nA m') ∧ (∀ a o, a ≠ b → a ≠ D → H14 a = some o → H' a = some o)) ?_ ?_ ?_
    · exact ⟨[], [], upd_same, .nil, rfl, (fun d h => by cases h), B14.same (same_new hD _), fun a o _ nD e => by rw [upd_ne nD]; exact e⟩
    · rintro j H15 hj ⟨ws, ds, hD15, hW, lj, hP, B15, U15⟩
      refine ⟨rfl, ?_⟩
      have hj5 : j < 5 := by omega
      have eN : n + 1 + (5 - j) * nA m' = n + 1 + (5 - (j + 1)) * nA m' + nA m' := by
        rw [show 5 - j = (5 - (j + 1)) + 1 by omega, Nat.succ_mul]
        omega
      rw [eN] at B15
      have hS15 : InH (D :: S) H15 := fun a ha => by
        rcases List.mem_cons.mp ha with rfl | ha
        · rw [hD15]; exact fun z => nomatch z
        · by_cases z : a = b
          · obtain ⟨ys, e⟩ := B15.lst
            rw [z, e]
            exact fun z => nomatch z
          · cases e : H14 a with
            | none => exact absurd e (hS14 a ha)
            | some o => rw [U15 _ _ z (fun y => nDS (by rw [← y]; exact ha)) e]; exact fun z => nomatch z
      refine ⟨_, rfl, _, rfl, _, _, rfl, rfl, b, _, D :: S, (by show [V.ref b, V.int (((m' + 1 : Nat) : Int) - 1)] = _; rw [em]; rfl), List.mem_cons_of_mem _ hbS, hS15, B15, fun v d H16 hv hp B16 U16 => ?_⟩
      have hD16 := U16 _ _ nDb hD15
      refine ⟨ws, hD16, by rw [hW.len]; omega, ws ++ [v], ds ++ [d], upd_same, ?_, by rw [List.length_append, lj]; rfl, ?_, ?_, ?_⟩
      · exact ((hW.same (msk_but (List.mem_cons_of_mem _ hbS) U16)).same (msk_upd (List.mem_cons_self ..))).app (.cons (hv.same (msk_upd (List.mem_cons_self ..))) .nil)
      · intro e he
        rcases List.mem_append.mp he with h | h
        · exact hP e h
        · rw [List.mem_singleton.mp h]; exact hp
      · obtain ⟨x, y, z, e, rr⟩ := B16
        exact ⟨x, y, z, by rw [upd_ne (fun z => nDb z.symm)]; exact e, rr⟩
      · intro a o nb nD e
        rw [upd_ne nD]
        exact U16 _ _ nb (U15 _ _ nb nD e)
    · rintro H15 ⟨ws, ds, hD15, hW, lj, hP, B15, U15⟩
      have l5 : ds.length ≤ 5 := by omega
      have U015 : But b H H15 := fun a o nb e => U15 a o nb (fun z => by have := (U013.trans U14) a o nb e; rw [z, hD] at this; cases this) ((U013.trans U14) a o nb e)
      have hw : wts ds ≤ 5 * (wA m' + 2) := Nat.le_trans (wts_all fun d hd => (hP d hd).w) (Nat.mul_le_mul_right _ l5)
      have hW' := hW.same msk_less
      refine ⟨_, rfl, rfl, _, rfl, ?_⟩
      refine ite2 (fun c => ?_) (fun c => ?_)
      · exact ⟨_, rfl, q _ _ H15 (.lst (msk_at nDS hD15) hW') (pl_lst (fun d hd => (hP d hd).a) (fun d hd => (hP d hd).dep) hw) (B15.less (by omega)) U015⟩
      · refine ⟨_, rfl, D, _, rfl, .inl ⟨SqL.of hD15, fun pt npt => ?_⟩⟩
        have st := same_new npt (.tup ws)
        have nps : pt ∉ S := (hS.but U015 B15).new npt
        exact q _ _ _ (.tup (msk_at nps upd_same) (hW'.same (msk_keep st))) (pl_tup (fun d hd => (hP d hd).a) (fun d hd => (hP d hd).dep) hw) ((B15.same st).less (by omega)) (U015.trans (But.of st))
  · rw [decide_eq_false hm]
    exact iteF (pick H13 (fun _ _ _ e => e) pickN)
theorem anyLs {f t : Addr} {fd td : FuncData} (F : Fun K "_law_any" "_law_any" sAnyL f fd) (TK : Fk P w K mg base 1 "_law_take" t td ["_law_bag_here", "_law_many"] spTake) (mF : mg "_law_any" = some (.ref f)) (bF : Binds K fd ["_law_bag_here", "_law_deep_here"] []) (T : Bi mg) (mt : mg "tuple" = none) : ∀ m : Nat, FnOk P w K mg base CX0 (m + 2) f fd ["_law_bag_here", "_law_deep_here"] (spAnyD m)
  | 0 => ok_anyL F TK (fun h => absurd h (by decide)) mF bF T mt
  | m + 1 => ok_anyL F TK (fun _ => anyLs F TK mF bF T mt m) mF bF T mt
end
end SH

set_option Elab.async false
set_option linter.all false
set_option maxRecDepth 100000
set_option maxHeartbeats 4000000
/-! a tuple by 0 or by 1. -/
namespace SH
open PySem PySem.Spec PyProof.Rows L2
theorem tuple_by1 (l : Addr) (items : Array Value) (n : Nat) (dd : Option Addr) (sl : Array (Option Value)) (u : Tok) :
    Meets (Builtin.«tuple.__mul__» ⟨[.ref l, .int 1 u], []⟩) (fun _ R s => s.heap.get? l = some { cls := .type "tuple", dict := dd, data := .seq items n, slots := sl } ∧ R (.ok (.ret (Value.ref l))) s) :=
  .of_wp fun prog w A R s h => by
    obtain ⟨hp, g, d, tk, os⟩ := s
    obtain ⟨hl, h⟩ := h
    have f1 := AutoSeq1.idx_int
    have c1 : (items.isEmpty || ((1 : Int) == 1)) = true := by rw [show ((1 : Int) == 1) = true from rfl, Bool.or_true]
    wp_walk using wpAny_loadPart' hl
    exact ⟨_, rfl, h⟩
theorem tuple_by0 (l : Addr) (items : Array Value) (n : Nat) (dd : Option Addr) (sl : Array (Option Value)) (u : Tok) (hi : items.isEmpty = false) :
    Meets (Builtin.«tuple.__mul__» ⟨[.ref l, .int 0 u], []⟩) (fun _ R s => s.heap.get? l = some { cls := .type "tuple", dict := dd, data := .seq items n, slots := sl } ∧
      R (.ok (.ret (Value.ref s.heap.objs.size))) { s with heap := s.heap.push { cls := Value.type "tuple", data := Data.seq #[] }, toks := s.toks }) :=
  .of_wp fun prog w A R s h => by
    obtain ⟨hp, g, d, tk, os⟩ := s
    obtain ⟨hl, h⟩ := h
    have f1 := AutoSeq1.idx_int
    have c1 : (items.isEmpty || ((0 : Int) == 1)) = false := by rw [hi]; rfl
    wp_walk using wpAny_loadPart' hl
    exact ⟨_, rfl, h⟩
/-- t * k, k 0 or 1 -/
def rRepB : R2 := fun x y H Q => ∃ (l : Addr) (k : Int) (xs : List V), x = .ref l ∧ y = .int k ∧ H l = some (.tup xs) ∧ xs ≠ [] ∧ ((k = 1 ∧ Q (.ref l) H) ∨ (k = 0 ∧ ∀ p, H p = none → Q (.ref p) (upd H p (.tup []))))
section
variable {X : Cx}
theorem op_repB : OpR X (binaryOp .Mult) rRepB := by
  intro pins s σ H x y v u Q I rx ry h
  obtain ⟨l, k, xs, rfl, rfl, hT, ne, q⟩ := h
  cases rx
  obtain ⟨t, rfl⟩ := ry
  obtain ⟨its, r, ⟨⟨cls, dd, data, sl⟩, ho, hc, n, hd⟩, hs⟩ := I.tuple (show SqT X.K H l xs from SqT.of hT)
  simp only at hc hd
  subst hc hd
  have hi : its.toArray.isEmpty = false := by
    cases its with
    | nil => cases r; exact absurd rfl ne
    | cons a b => rfl
  refine wpAny_binaryOp_repeat_ref (T := "tuple") (U := "int") (by decide) ⟨_, ho, rfl⟩ (fun s' => typeIs_int s' k t) noFill_tuple_mul F.fills_int_mul F.slot_int_rmul repeat_tuple F.slot_int_index.lookup
    (call_meets F.slot_int_rmul (typeIs_int s k t) F.entry_int_rmul (F.args_int_rmul_2 _ _) (int_rmul_tuple k t l its.toArray n dd sl) ⟨ho, rfl, ⟨_, ho, rfl⟩, ?_⟩)
  rcases q with ⟨rfl, q⟩ | ⟨rfl, q⟩
  · exact call_meets F.slot_tuple_mul ⟨_, ho, rfl⟩ F.entry_tuple_mul (F.args_tuple_mul_2 _ _) (tuple_by1 l its.toArray n dd sl t) ⟨ho, .ref l, H, I, rfl, q⟩
  · refine call_meets F.slot_tuple_mul ⟨_, ho, rfl⟩ F.entry_tuple_mul (F.args_tuple_mul_2 _ _) (tuple_by0 l its.toArray n dd sl t hi) ⟨ho, ?_⟩
    exact ⟨.ref s.heap.objs.size, _, I.laid (t' := s.toks) (o := .tup []) (fun b ob e => Heap.get?_push_of_some _ e) (Nat.le_refl _) ⟨Nat.zero_le _, [], .nil, IsTup.new _ _⟩, rfl, q _ (I.hok.fresh (Nat.le_refl _))⟩
end
/-! ### t[::-1] -/
theorem pick_rev (xs : Array Value) : ((List.range xs.size).filterMap fun (k : Nat) => xs[(((xs.size : Nat) : Int) - 1 + (k : Int) * -1).toNat]?).toArray = xs.toList.reverse.toArray := by
  congr 1
  apply List.ext_getElem?
  intro i
  by_cases hi : i < xs.size
  · have e1 : ∀ l : List Nat, (∀ k ∈ l, k < xs.size) → l.filterMap (fun (k : Nat) => xs[(((xs.size : Nat) : Int) - 1 + (k : Int) * -1).toNat]?) = l.map (fun k => xs.toList.getD (xs.size - 1 - k) .none) := by
      intro l
      induction l with
      | nil => intro _; rfl
      | cons k l ih =>
        intro h
        have hk := h k List.mem_cons_self
        have e : (((xs.size : Nat) : Int) - 1 + (k : Int) * -1).toNat = xs.size - 1 - k := by omega
        have e2 : xs[xs.size - 1 - k]? = some (xs.toList.getD (xs.size - 1 - k) .none) := by
          rw [← Array.getElem?_toList, List.getD_eq_getElem?_getD]
          have hl : xs.size - 1 - k < xs.toList.length := by rw [Array.length_toList]; omega
          rw [List.getElem?_eq_getElem hl]
          rfl
        rw [List.filterMap_cons, e, e2, List.map_cons, ih fun j hj => h j (List.mem_cons_of_mem _ hj)]
    rw [e1 _ fun k hk => List.mem_range.mp hk, List.getElem?_map, List.getElem?_range hi, List.getElem?_reverse (by rw [Array.length_toList]; exact hi), Array.length_toList]
    have hl : xs.size - 1 - i < xs.toList.length := by rw [Array.length_toList]; omega
    rw [List.getElem?_eq_getElem hl]
    show some (xs.toList.getD (xs.size - 1 - i) .none) = _
    rw [List.getD_eq_getElem?_getD, List.getElem?_eq_getElem hl]
    rfl
  · have l1 : (xs.toList.reverse)[i]? = none := List.getElem?_eq_none (by rw [List.length_reverse, Array.length_toList]; omega)
    rw [l1]
    refine List.getElem?_eq_none (Nat.le_trans (List.length_filterMap_le _ _) ?_)
    rw [List.length_range]
    omega
section
variable {prog : Program} {w : World} {A : Around} {E : Value → Shared → Prop} {s : Shared}
theorem applied_rev {sl : Addr} {vl vu vs : Value} {n : Nat} {Q : Int × Int × Nat → Shared → Prop} (hs : s.heap.IsSliceOf sl vl vu vs) (pl : IsPart vl none) (pu : IsPart vu none) (ps : IsPart vs (some (-1)))
    (h : Q (((n : Nat) : Int) - 1, -1, n) s) : wpAny (model prog w) A (Builtin.Slice.sliceApplied (.ref sl) (pure (n : Int))) Q E s := by
  obtain ⟨os, hos, hcs, hds⟩ := id hs
  unfold Builtin.Slice.sliceApplied Builtin.Slice.sliceFields
  refine wpAny_bind (wpAny_bind (wpAny_field hos hds (x := vl) rfl (wpAny_bind (wpAny_field hos hds (x := vu) rfl (wpAny_bind (wpAny_field hos hds (x := vs) rfl (wpAny_pure ?_)))))))
  refine wpAny_bind (HT.slicePart_ ps ?_)
  show wpAny _ _ (if ((-1 : Int) == 0) = true then _ else _) _ _ s
  rw [if_neg (by decide)]
  refine wpAny_bind (HT.slicePart_ pl (wpAny_bind (HT.slicePart_ pu (wpAny_bind (wpAny_pure ?_)))))
  show wpAny _ _ (pure (((n : Nat) : Int) - 1, (-1 : Int), Builtin.Slice.slicePlaces (((n : Nat) : Int) - 1) (-1) (-1))) _ _ s
  have e : Builtin.Slice.slicePlaces (((n : Nat) : Int) - 1) (-1) (-1) = n := by
    unfold Builtin.Slice.slicePlaces
    rw [if_neg (by decide)]
    rcases Nat.eq_zero_or_pos n with z | z
    · rw [if_neg (by omega), z]
      rfl
    · rw [if_pos (by omega), show (-(-1 : Int)) = 1 by decide, Int.ediv_one]
      omega
  rw [e]
  exact wpAny_pure h
theorem tup_rev {t sl : Addr} {items : Array Value} {vl vu vs : Value} {Q : Value → Shared → Prop} (ht : IsTup s.heap t items) (hs : s.heap.IsSliceOf sl vl vu vs) (pl : IsPart vl none) (pu : IsPart vu none) (ps : IsPart vs (some (-1)))
    (h : Q (.ref s.heap.objs.size) { s with heap := s.heap.push { cls := .type "tuple", data := .seq items.toList.reverse.toArray } }) (hsz : items.size ≤ sizeLine) : wpAny (model prog w) A (getItem (.ref t) (.ref sl)) Q E s := by
  have hz : sizeOk (.seq items.toList.reverse.toArray) := by
    show items.toList.reverse.toArray.size ≤ sizeLine
    rw [List.size_toArray, List.length_reverse, Array.length_toList]
    exact hsz
  obtain ⟨os, hos, hcs, hds⟩ := id hs
  have hTs : s.TypeIs (.ref sl) "slice" := ⟨os, hos, hcs⟩
  unfold getItem
  try with_reducible refine wpAny_holding ?_
  first | refine wpAny_bind (wpAny_pure ?_) | skip
  refine wpAny_bind (wpAny_sequenceKey ht.typeIs (by decide) ?_)
  refine wpAny_bind (wpAny_callSpecial?_slot (name := Str.ofString "__getitem__") ht.typeIs PyProof.Rows.slot_tuple_getitem (wpAny_call_entry PyProof.Rows.slot_tuple_getitem ht.typeIs entry_tuple_getitem ?_ (args_tuple_getitem _ _)))
  show wpAny _ _ (Builtin.Tuple.tupleItemsOf (.ref t) >>= _) _ _ s
  refine wpAny_bind (tupleItemsOf_ ht ?_)
  refine wpAny_bind (wpAny_typeOf hTs ?_)
  rw [if_pos (by decide)]
  refine wpAny_bind (applied_rev hs pl pu ps ?_)
  have no : ¬ ((((items.size : Nat) : Int) - 1 == 0 && (-1 : Int) == 1 && items.size == items.size) = true) := by
    rw [show ((-1 : Int) == 1) = false from rfl, Bool.and_false, Bool.false_and]
    exact Bool.false_ne_true
  show wpAny _ _ (if (((items.size : Nat) : Int) - 1 == 0 && (-1 : Int) == 1 && items.size == items.size) = true then _ else _) _ _ s
  rw [if_neg no, pick_rev]
  first
    | exact wpAny_bind (m := Builtin.Tuple.tupleExact _) (wpAny_newObj_type (wpAny_pure ⟨_, rfl, wpAny_pure h⟩) hz)
    | exact wpAny_bind (m := Builtin.Tuple.tupleExact _) (wpAny_newObj_type (wpAny_bind (wpAny_pure (wpAny_pure ⟨_, rfl, wpAny_pure h⟩))) hz)
    | exact wpAny_bind (wpAny_bind (m := Builtin.Tuple.tupleExact _) (wpAny_newObj_type (wpAny_pure (wpAny_pure ⟨_, rfl, wpAny_pure h⟩)) hz))
    | exact wpAny_bind (wpAny_bind (m := Builtin.Tuple.tupleExact _) (wpAny_newObj_type (wpAny_pure ⟨_, rfl, wpAny_pure h⟩) hz))
end
theorem pick_one (items : Array Value) : slicePick items none none (some 1) = items := by
  have e := slicePick_run items 0 items.size (Nat.le_refl _) (Nat.zero_le _)
  have b : sliceBounds (some ((0 : Nat) : Int)) (some ((items.size : Nat) : Int)) none items.size = sliceBounds none none (some 1) items.size := by
    simp [sliceBounds]
    refine ⟨by omega, ?_⟩
    rw [if_neg (by omega)]
    omega
  unfold slicePick at e ⊢
  rw [b] at e
  rw [e, Nat.sub_zero, List.drop_zero, List.take_of_length_le (Nat.le_of_eq Array.length_toList)]
def tRevT (te : TE) : TE := fun σ H Q => te σ H fun x H1 => ∃ (a : Addr) (xs : List V), x = .ref a ∧ H1 a = some (.tup xs) ∧ ∀ p, H1 p = none → Q (.ref p) (upd H1 p (.tup xs.reverse))
/-- xs[::k], k 1 or -1 -/
def tStepL (te ts : TE) : TE := fun σ H Q => te σ H fun x H1 => tPart ts σ H1 fun o H2 => ∃ (a : Addr) (xs : List V), x = .ref a ∧ H2 a = some (.lst xs) ∧ ((o = some 1 ∧ ∀ p, H2 p = none → Q (.ref p) (upd H2 p (.lst xs))) ∨ (o = some (-1) ∧ ∀ p, H2 p = none → Q (.ref p) (upd H2 p (.lst xs.reverse))))
section
variable {X : Cx}
theorem pe_revT {e : Expr} {te : TE} {k : Nat} {p1 p2 p3 pos : Pos} (he : PE X e te) : PE X (.Subscript e (.Slice none none (some (.UnaryOp .USub (.Constant (.int 1) k p1) p2)) p3) pos) (tRevT te) := by
  refine ⟨fun pins s σ H Q I h => ?_⟩
  refine Subscript_ (thn (he.run pins s σ H _ I h) fun v s1 ⟨x, H1, I1, r1, a, xs, ex, hx, q⟩ => ?_)
  subst ex
  cases r1
  have st : PO X (some (.UnaryOp .USub (.Constant (.int 1) k p1) p2)) (tPart (tUn (rU fun i => .int (-i)) (tC (.int 1)))) := po_some (pe_un un_neg pe_int)
  refine wpAny_Slice (thn (po_none.run pins s1 σ H1 (fun o G => o = none ∧ G = H1) I1 ⟨rfl, rfl⟩) fun vl s2 ⟨_, _, I2, pl, e1, e2⟩ => ?_)
  subst e1 e2
  refine thn (po_none.run pins s2 σ _ (fun o G => o = none ∧ G = _) I2 ⟨rfl, rfl⟩) fun vu s3 ⟨_, _, I3, pu, e1, e2⟩ => ?_
  subst e1 e2
  refine thn (st.run pins s3 σ _ (fun o G => o = some (-1) ∧ G = _) I3 ⟨1, rfl, -1, rfl, rfl, rfl⟩) fun vs s4 ⟨_, G, I4, ps, e1, e2⟩ => ?_
  subst e1 e2
  have I5 : Inv X pins σ G { s4 with heap := s4.heap.push { cls := .type "slice", data := .fields #[vl, vu, vs] } } := I4.kept (t' := s4.toks) fun b ob q => Heap.get?_push_of_some _ q
  obtain ⟨its, r, ht, hz⟩ := I5.tuple (show SqT X.K G a xs from SqT.of hx)
  have hlen := r.length
  show wpAny (model X.prog X.w) X.A (subscriptTail e (.Slice none none (some (.UnaryOp .USub (.Constant (.int 1) k p1) p2)) p3) (.ref a) (.ref s4.heap.objs.size)) (EP X pins σ Q) X.xe { s4 with heap := s4.heap.push { cls := .type "slice", data := .fields #[vl, vu, vs] } }
  refine tail_any (ops := [.ref a, .ref s4.heap.objs.size]) ht.typeIs PyProof.Rows.slot_tuple_getitem.lookup ?_ (by with_unfolding_all rfl)
  refine tup_rev ht (Heap.IsSliceOf.new _ vl vu vs) pl pu ps ?_ (by rw [List.size_toArray]; omega)
  refine ⟨.ref _, _, I5.laid (t' := s4.toks) (o := .tup xs.reverse) (fun b ob q => Heap.get?_push_of_some _ q) (Nat.le_refl _) ?_, rfl, q _ (I5.hok.fresh (Nat.le_refl _))⟩
  exact ⟨by rw [List.length_reverse]; exact hz, _, r.reverse, IsTup.new _ _⟩
theorem pe_stepL {e se : Expr} {te ts : TE} {p3 pos : Pos} (he : PE X e te) (hse : PE X se ts) (hop : ∀ ov iv : Value, subscripted (.Slice none none (some se) p3) false ov iv = operate [ov, iv] (getItem ov iv) := by intro _ _; with_unfolding_all rfl) : PE X (.Subscript e (.Slice none none (some se) p3) pos) (tStepL te ts) := by
  refine ⟨fun pins s σ H Q I h => ?_⟩
  refine Subscript_ (thn (he.run pins s σ H _ I h) fun v s1 ⟨x, H1, I1, r1, q1⟩ => ?_)
  refine wpAny_Slice (thn (po_none.run pins s1 σ H1 (fun o G => o = none ∧ G = H1) I1 ⟨rfl, rfl⟩) fun vl s2 ⟨_, _, I2, pl, e1, e2⟩ => ?_)
  subst e1 e2
  refine thn (po_none.run pins s2 σ _ (fun o G => o = none ∧ G = _) I2 ⟨rfl, rfl⟩) fun vu s3 ⟨_, _, I3, pu, e1, e2⟩ => ?_
  subst e1 e2
  have run := (po_some hse).run pins s3 σ _ (fun o G => ∃ (a : Addr) (xs : List V), x = .ref a ∧ G a = some (.lst xs) ∧ ((o = some 1 ∧ ∀ p, G p = none → Q (.ref p) (upd G p (.lst xs))) ∨ (o = some (-1) ∧ ∀ p, G p = none → Q (.ref p) (upd G p (.lst xs.reverse))))) I3 q1
  refine thn run fun vs s4 ⟨o, G, I4, ps, a, xs, ex, hx, q⟩ => ?_
  subst ex
  cases r1
  have I5 : Inv X pins σ G { s4 with heap := s4.heap.push { cls := .type "slice", data := .fields #[vl, vu, vs] } } := I4.kept (t' := s4.toks) fun b ob q => Heap.get?_push_of_some _ q
  obtain ⟨its, r, ht, hz⟩ := I5.list (show SqL X.K G a xs from SqL.of hx)
  have hlen := r.length
  show wpAny (model X.prog X.w) X.A (subscriptTail e (.Slice none none (some se) p3) (.ref a) (.ref s4.heap.objs.size)) (EP X pins σ Q) X.xe { s4 with heap := s4.heap.push { cls := .type "slice", data := .fields #[vl, vu, vs] } }
  refine tail_any (ops := [.ref a, .ref s4.heap.objs.size]) ht.isList.typeIs (PySem.slot_list_getitem.lookup) ?_ (hop _ _)
  rcases q with ⟨rfl, q⟩ | ⟨rfl, q⟩
  · refine wpAny_getItem_list_slice ht.isList (Heap.IsSliceOf.new _ vl vu vs) pl pu ps (by decide) ?_ (by rw [List.size_toArray]; omega)
    rw [pick_one]
    refine ⟨.ref _, _, I5.laid (t' := s4.toks) (o := .lst xs) (fun b ob q => Heap.get?_push_of_some _ q) (Nat.le_refl _) ?_, rfl, q _ (I5.hok.fresh (Nat.le_refl _))⟩
    exact ⟨hz, _, 0, r, Heap.get?_push_size _ rfl⟩
  · refine wpAny_getItem_list_slice ht.isList (Heap.IsSliceOf.new _ vl vu vs) pl pu ps (by decide) ?_ (by rw [List.size_toArray]; omega)
    rw [PySem.W.krv_pick]
    refine ⟨.ref _, _, I5.laid (t' := s4.toks) (o := .lst xs.reverse) (fun b ob q => Heap.get?_push_of_some _ q) (Nat.le_refl _) ?_, rfl, q _ (I5.hok.fresh (Nat.le_refl _))⟩
    exact ⟨by rw [List.length_reverse]; exact hz, _, 0, r.reverse, Heap.get?_push_size _ rfl⟩
end
end SH

set_option Elab.async false
set_option linter.all false
set_option maxRecDepth 100000
namespace SH
open PySem L2
abbrev sSpoil : Stmt := topS 51
theorem scSpoil : FnScope ["_law_bag_here", "_law_thing", "_law_at", "_law_some"] ["_law_bag_here", "_law_thing"] (defScope sSpoil) := ⟨rfl, rfl, rfl, by decide +kernel, rfl, by decide +kernel, by decide +kernel⟩
theorem cutV_whole {xs : List V} {lo hi : Option Int} (z : HT.sIx xs.length 0 lo = 0 ∧ HT.sIx xs.length xs.length hi = xs.length) : cutV xs lo hi = xs := by
  unfold cutV
  rw [z.1, z.2, Nat.sub_zero, List.drop_zero, List.take_length]
/-- a slice of a tuple, be it the whole or a part -/
theorem slA {K : PySem.W.Frag} {H : Hp} {Q : VK} {a : Addr} {S : List Addr} {xs : List V} {lo hi : Option Int} (hS : InH S H) (na : a ∉ S) (h : H a = some (.tup xs)) (q : ∀ p H', Same H H' → p ∉ S → H' p = some (.tup (cutV xs lo hi)) → Q (.ref p) H') : rSlA K (.ref a) lo hi H Q :=
  ⟨a, xs, rfl, SqT.of h, fun z => q a H (Same.refl H) na (by rw [cutV_whole z]; exact h), fun _ p np => q p _ (same_new np _) (hS.new np) upd_same⟩
theorem catA {K : PySem.W.Frag} {H : Hp} {Q : VK} {a b : Addr} {S : List Addr} {xs ys : List V} (hS : InH S H) (na : a ∉ S) (nb : b ∉ S) (h : H a = some (.tup xs)) (k : H b = some (.tup ys)) (l : xs.length + ys.length ≤ sizeLine) (q : ∀ p H', Same H H' → p ∉ S → H' p = some (.tup (xs ++ ys)) → Q (.ref p) H') : rCatA K (.ref a) (.ref b) H Q :=
  ⟨a, b, xs, ys, rfl, rfl, SqT.of h, SqT.of k, l, fun z => q b H (Same.refl H) nb (by rw [z]; exact k), fun _ z => q a H (Same.refl H) na (by rw [z, List.append_nil]; exact h), fun _ _ p np => q p _ (same_new np _) (hS.new np) upd_same⟩
theorem cut_fromV (xs : List V) (k : Nat) : cutV xs (some (k : Int)) none = xs.drop k := by
  unfold cutV
  rw [HT.sIx_nat, HT.sIx_none]
  by_cases h : k ≤ xs.length
  · rw [Nat.min_eq_left h, List.take_of_length_le (by rw [List.length_drop]; omega)]
  · rw [Nat.min_eq_right (by omega), Nat.sub_self, List.take_zero, List.drop_of_length_le (by omega)]
theorem cut_toV (xs : List V) (k : Nat) : cutV xs none (some (k : Int)) = xs.take k := by
  unfold cutV
  rw [HT.sIx_nat, HT.sIx_none, List.drop_zero, Nat.sub_zero]
  by_cases h : k ≤ xs.length
  · rw [Nat.min_eq_left h]
  · rw [Nat.min_eq_right (by omega), List.take_of_length_le (by omega), List.take_of_length_le (by omega)]
def nS (m : Nat) : Nat := 2 * m + 2 + nA 2
def wS (W : Nat) : Nat := 3 * W + 20000
def spSpoil (m : Nat) : Sp := fun vs H Q _ => ∃ (b : Addr) (v : V) (d : PyData) (n B W D : Nat) (S : List Addr), vs = [.ref b, v] ∧ b ∈ S ∧ InH S H ∧ Bag H b (n + nS m) ∧ DpU (msk S H) v d ∧ Pl B D W d ∧ d.depth ≤ m ∧ D ≤ 40 ∧ 10 ^ 30 ≤ B ∧ B < 2 ^ 100 ∧ W ≤ 4000000 ∧
  ∀ (v' : V) (d' : PyData) (H' : Hp), DpU (msk S H') v' d' → Pl (B + 1) (D + 5) (wS W) d' → Bag H' b n → But b H H' → Q v' H'
/-- values of plain data: each no deeper than n, together no heavier than m -/
structure Ps (H : Hp) (b n m : Nat) (xs : List V) (ds : List PyData) : Prop where
  t : DpsU H xs ds
  a : ∀ d ∈ ds, asc b d = true
  dep : ∀ d ∈ ds, d.depth ≤ n
  w : wts ds ≤ m
theorem Ps.ex {H : Hp} {b n m : Nat} {xs : List V} {ds : List PyData} (h : Ps H b n m xs ds) : Ps H b n (wts ds) xs ds := ⟨h.t, h.a, h.dep, Nat.le_refl _⟩
theorem wts_at {ds : List PyData} {k : Nat} {e : PyData} (h : ds[k]? = some e) : wts (ds.take k) + (wt e + 2 + wts (ds.drop (k + 1))) = wts ds := by
  obtain ⟨hi, rfl⟩ := List.getElem?_eq_some_iff.mp h
  have := wts_app (ds.take k) (ds.drop k)
  rw [List.take_append_drop, List.drop_eq_getElem_cons hi] at this
  exact this.symm
theorem Ps.same {H H' : Hp} {b n m : Nat} {xs : List V} {ds : List PyData} (h : Ps H b n m xs ds) (s : Same H H') : Ps H' b n m xs ds := ⟨h.t.same s, h.a, h.dep, h.w⟩
theorem Ps.up {H : Hp} {b n m b' n' m' : Nat} {xs : List V} {ds : List PyData} (h : Ps H b n m xs ds) (k : b ≤ b') (l : n ≤ n') (o : m ≤ m') : Ps H b' n' m' xs ds := ⟨h.t, fun d hd => asc_up k (h.a d hd), fun d hd => Nat.le_trans (h.dep d hd) l, Nat.le_trans h.w o⟩
theorem Ps.app {H : Hp} {b n m k : Nat} {xs ys : List V} {ds es : List PyData} (h : Ps H b n m xs ds) (g : Ps H b n k ys es) : Ps H b n (m + k) (xs ++ ys) (ds ++ es) :=
  ⟨h.t.app g.t, fun d hd => (List.mem_append.mp hd).elim (h.a d) (g.a d), fun d hd => (List.mem_append.mp hd).elim (h.dep d) (g.dep d), by rw [wts_app]; have := h.w; have := g.w; omega⟩
theorem wts_take (k : Nat) (ds : List PyData) : wts (ds.take k) + wts (ds.drop k) = wts ds := by rw [← wts_app, List.take_append_drop]
theorem Ps.take {H : Hp} {b n m : Nat} {xs : List V} {ds : List PyData} (h : Ps H b n m xs ds) (k : Nat) : Ps H b n m (xs.take k) (ds.take k) :=
  ⟨h.t.take k, fun d hd => h.a d (List.mem_of_mem_take hd), fun d hd => h.dep d (List.mem_of_mem_take hd), by have := wts_take k ds; have := h.w; omega⟩
theorem Ps.drop {H : Hp} {b n m : Nat} {xs : List V} {ds : List PyData} (h : Ps H b n m xs ds) (k : Nat) : Ps H b n m (xs.drop k) (ds.drop k) :=
  ⟨h.t.drop k, fun d hd => h.a d (List.mem_of_mem_drop hd), fun d hd => h.dep d (List.mem_of_mem_drop hd), by have := wts_take k ds; have := h.w; omega⟩
theorem Ps.cut {H : Hp} {b n m : Nat} {xs : List V} {ds : List PyData} (h : Ps H b n m xs ds) (lo hi : Option Int) : ∃ es, Ps H b n m (cutV xs lo hi) es := ⟨_, (h.drop _).take _⟩
theorem wts_rev : ∀ ds : List PyData, wts ds.reverse = wts ds
  | [] => rfl
  | d :: ds => by
    rw [List.reverse_cons, wts_app, wts_rev ds]
    show wts ds + (wt d + 2 + 0) = wt d + 2 + wts ds
    omega
theorem Ps.rev {H : Hp} {b n m : Nat} {xs : List V} {ds : List PyData} (h : Ps H b n m xs ds) : Ps H b n m xs.reverse ds.reverse :=
  ⟨h.t.rev, fun d hd => h.a d (List.mem_reverse.mp hd), fun d hd => h.dep d (List.mem_reverse.mp hd), by rw [wts_rev]; exact h.w⟩
theorem Ps.one {H : Hp} {b n m : Nat} {v : V} {d : PyData} (h : DpU H v d) (p : Pl b n m d) : Ps H b n (m + 2) [v] [d] :=
  ⟨.cons h .nil, fun e he => by rw [List.mem_singleton.mp he]; exact p.a, fun e he => by rw [List.mem_singleton.mp he]; exact p.dep, (by have := p.w; show wt d + 2 + 0 ≤ m + 2; omega)⟩
theorem Ps.tup {H : Hp} {b n m : Nat} {p : Addr} {xs : List V} {ds : List PyData} (h : Ps H b n m xs ds) (e : H p = some (.tup xs)) : DpU H (.ref p) (.tuple ds) ∧ Pl b (n + 1) (3 + m) (.tuple ds) := ⟨.tup e h.t, pl_tup h.a h.dep h.w⟩
theorem Ps.lst {H : Hp} {b n m : Nat} {p : Addr} {xs : List V} {ds : List PyData} (h : Ps H b n m xs ds) (e : H p = some (.lst xs)) : DpU H (.ref p) (.list ds) ∧ Pl b (n + 1) (3 + m) (.list ds) := ⟨.lst e h.t, pl_lst h.a h.dep h.w⟩
theorem Ps.of {H : Hp} {b n m : Nat} {p : Addr} {ds : List PyData} (h : DpU H (.ref p) (.tuple ds)) (k : Pl b n m (.tuple ds)) : 1 ≤ n ∧ 3 ≤ m ∧ ∃ xs, H p = some (.tup xs) ∧ Ps H b (n - 1) (m - 3) xs ds := by
  have hw : 3 + wts ds ≤ m := k.w
  have hd : PySem.PyData.depthAll ds + 1 ≤ n := k.dep
  cases h with
  | tup e t => exact ⟨by omega, by omega, _, e, t, ascs_iff.mp k.a, fun d m => dep_mem (by omega) m, by omega⟩
theorem int_asc (i : Int) : ((toString i : String) : Str).cps.all (· < 128) = true := by
  rw [← Array.all_toList, List.all_eq_true]
  intro c hc
  refine decide_eq_true ?_
  by_cases z : c < 128
  · exact z
  · exact absurd hc (PyProof.Rows.int_text_free' c ⟨by omega, .inr (by omega)⟩ i)
theorem pl_str {b n m : Nat} {s : Str} (h : s.cps.all (· < 128) = true) (l : 10 * s.length + 2 ≤ m) : Pl b n m (.str s) := ⟨h, Nat.zero_le _, l⟩
theorem asc_app {s t : Str} (h : s.cps.all (· < 128) = true) (k : t.cps.all (· < 128) = true) : (s ++ t).cps.all (· < 128) = true := by
  show (s.cps ++ t.cps).all (· < 128) = true
  rw [Array.all_append, h, k]
  rfl
theorem asc_upper {s : Str} (h : ∀ c ∈ s.cps.toList, c < 128) : (PySem.Txt.upper s).cps.all (· < 128) = true ∧ (PySem.Txt.upper s).length = s.length := by
  rw [PyProof.Rows.upper_ascii h]
  refine ⟨?_, by show (s.cps.map _).size = s.cps.size; rw [Array.size_map]⟩
  show (s.cps.map PyProof.Rows.up1).all (· < 128) = true
  rw [← Array.all_toList, List.all_eq_true]
  intro c hc
  rw [Array.toList_map] at hc
  obtain ⟨e, he, rfl⟩ := List.mem_map.mp hc
  have := h e he
  refine decide_eq_true ?_
  unfold PyProof.Rows.up1
  split <;> omega
theorem asc_cut {s : Str} (h : ∀ c ∈ s.cps.toList, c < 128) (lo hi : Option Int) : (cutS s lo hi).cps.all (· < 128) = true ∧ (cutS s lo hi).length ≤ s.length := by
  unfold cutS
  refine ⟨?_, ?_⟩
  · rw [← Array.all_toList, List.all_eq_true]
    intro c hc
    exact decide_eq_true (h c (List.mem_of_mem_drop (List.mem_of_mem_take (by simpa using hc))))
  · show (List.toArray _).size ≤ s.cps.size
    rw [List.size_toArray, List.length_take, List.length_drop, Array.length_toList]
    omega
theorem asc_list {s : Str} : s.cps.all (· < 128) = true ↔ ∀ c ∈ s.cps.toList, c < 128 := by
  rw [← Array.all_toList, List.all_eq_true]
  exact ⟨fun h c hc => of_decide_eq_true (h c hc), fun h c hc => decide_eq_true (h c hc)⟩
theorem eqv_nil (ds : List PyData) : PyData.eqv (.tuple ds) (.tuple []) = ds.isEmpty := by cases ds <;> rfl
section
variable {P : Program} {w : World} {K : PySem.W.Frag} {mg : Str → Option Value} {base : Heap}
set_option maxHeartbeats 1000000 in
theorem ok_spoil {m : Nat} {f t a : Addr} {fd td ad : FuncData} (F : Fun K "_law_spoilt" "_law_spoilt" sSpoil f fd) (TK : Fk P w K mg base 1 "_law_take" t td ["_law_bag_here", "_law_many"] spTake) (AY : Fk P w K mg base 4 "_law_any" a ad ["_law_bag_here", "_law_deep_here"] (spAnyD 2)) (SI : 1 ≤ m → FnOk P w K mg base CX0 (m + 4) f fd ["_law_bag_here", "_law_thing"] (spSpoil (m - 1))) (mF : mg "_law_spoilt" = some (.ref f)) (bF : Binds K fd ["_law_bag_here", "_law_thing"] []) (T : Bi mg) (mt : mg "tuple" = none) (mtl : mg "list" = none) (mtb : mg "bool" = none) : FnOk P w K mg base CX0 (m + 5) f fd ["_law_bag_here", "_law_thing"] (spSpoil m) := by
  refine F.ok scSpoil (fun vs H Q E h => ?_) (fun cdv A outer s H vs Q E hr h => ?_)
  · obtain ⟨b, v, d, n, B, W, D, S, rfl, _⟩ := h
    rfl
  obtain ⟨b, v, d, n, B, W, D, S, rfl, hbS, hS, hB, hd, hp, hm, h40, b30, b100, hW, q⟩ := h
  have BG : ∃ sp, FnOk P w K mg base CX0 (m + 4) f fd ["_law_bag_here", "_law_thing"] sp ∧ (1 ≤ m → sp = spSpoil (m - 1)) := by
    by_cases h1 : 1 ≤ m
    · exact ⟨_, SI h1, fun _ => rfl⟩
    · refine ⟨fun _ _ _ _ => False, ⟨fun _ _ _ _ h => h.elim, fun _ _ _ _ _ _ _ _ _ _ _ _ _ h => h.elim⟩, fun z => absurd z h1⟩
  obtain ⟨spB, GB, eB⟩ := BG
  have SP : Fk P w K mg base (m + 4) "_law_spoilt" f fd ["_law_bag_here", "_law_thing"] spB := ⟨GB, mF, F.kp, bF⟩
  refine ⟨_, (C8.pss_cut (ps_if (PW.pt (pw_and (pt_val (pe_callB call_isi (by rfl) T.isinstance (by decide +kernel) (pa_cons (pv 1) (pa_cons (pe_bltn (v := .ty "tuple") (by rfl) mt (by decide +kernel) rfl) pa_nil)))) (pw_and (pt_cmpR (op_neD hr.units) (pv 1) (pe_tup pa_nil) (nomark _)) (pw_and1 (pt_cmpR op_gt (pe_call TK.G (hr.mono (by omega)) (by rfl) TK.m TK.k TK.b .nil pass0 (pa_cons (pv 0) (pa_cons pe_int pa_nil))) pe_int (nomark _))))))
      (pss_cons (ps_set (i := 2) scSpoil.nd rfl (Or.inl rfl) (pe_call TK.G (hr.mono (by omega)) (by rfl) TK.m TK.k TK.b .nil pass0 (pa_cons (pv 0) (pa_cons (pe_callB call_len_seq (by rfl) T.len (by decide +kernel) (pa_cons (pv 1) pa_nil)) pa_nil))))
    (pss_one (ps_ret (pe_op op_catA (pe_op op_catA (pe_slice sl_tupA (pv 1) po_none (po_some (pv 2))) (pe_tup (pa_cons (pe_call SP.G hr (by rfl) SP.m SP.k SP.b .nil pass0 (pa_cons (pv 0) (pa_cons (pe_ix ix_tup (pv 1) (pv 2) (fun _ _ => rfl)) pa_nil))) pa_nil))) (pe_slice sl_tupA (pv 1) (po_some (pe_op op_add (pv 2) pe_int)) po_none)))))
      pss_nil)
    (pss_cons (ps_if (pt_val (pe_callB call_isi (by rfl) T.isinstance (by decide +kernel) (pa_cons (pv 1) (pa_cons (pe_bltn (v := .ty "tuple") (by rfl) mt (by decide +kernel) rfl) pa_nil))))
      (pss_cons (ps_set (i := 2) scSpoil.nd rfl (Or.inl rfl) (pe_call TK.G (hr.mono (by omega)) (by rfl) TK.m TK.k TK.b .nil pass0 (pa_cons (pv 0) (pa_cons (pe_op op_add (pe_callB call_len_seq (by rfl) T.len (by decide +kernel) (pa_cons (pv 1) pa_nil)) pe_int) pa_nil))))
    (pss_cons (ps_set (i := 3) scSpoil.nd rfl (Or.inl rfl) (pe_lst (pa_cons (pe_op op_catA (pe_slice sl_tupA (pv 1) po_none (po_some (pv 2))) (pe_slice sl_tupA (pv 1) (po_some (pe_op op_add (pv 2) pe_int)) po_none)) (pa_cons (pe_op op_catA (pe_op op_catA (pe_slice sl_tupA (pv 1) po_none (po_some (pv 2))) (pe_slice sl_tupA (pe_slice sl_tupA (pv 1) po_none (po_some (pv 2))) (po_some (pe_un un_neg pe_int)) po_none)) (pe_slice sl_tupA (pv 1) (po_some (pv 2)) po_none)) (pa_cons (pe_callTy call_list_of (by rfl) mtl (by decide +kernel) (pa_cons (pv 1) pa_nil)) (pa_cons (pe_revT (pv 1)) pa_nil))))))
    (pss_one (ps_ret (pe_ix ix_list (pe_op op_cat (pv 3) (pe_lst (pa_cons (pe_op op_catA (pv 1) (pe_tup (pa_cons pe_non pa_nil))) (pa_cons (pe_op op_catA (pv 1) (pe_tup (pa_cons (pe_tup (pa_cons pe_str (pa_cons (pe_tup (pa_cons pe_str (pa_cons pe_int pa_nil))) pa_nil))) pa_nil))) pa_nil)))) (pe_call TK.G (hr.mono (by omega)) (by rfl) TK.m TK.k TK.b .nil pass0 (pa_cons (pv 0) (pa_cons pe_int pa_nil))) (fun _ _ => rfl))))))
      pss_nil)
    (pss_cons (ps_if (PW.pt (pw_and (pt_val (pe_callB call_isi (by rfl) T.isinstance (by decide +kernel) (pa_cons (pv 1) (pa_cons (pe_bltn (v := .ty "int") (by rfl) T.int (by decide +kernel) rfl) pa_nil)))) (pw_and1 (pt_not (pt_val (pe_callB call_isi (by rfl) T.isinstance (by decide +kernel) (pa_cons (pv 1) (pa_cons (pe_bltn (v := .ty "bool") (by rfl) mtb (by decide +kernel) rfl) pa_nil))))))))
      (pss_one (ps_ret (pe_ix ix_list (pe_lst (pa_cons (pe_op op_sub (pe_un un_neg pe_int) (pv 1)) (pa_cons (pe_cmpR op_eq (pv 1) pe_int (nomark _)) (pa_cons (pe_callTy call_str_int (by rfl) T.str (by decide +kernel) (pa_cons (pv 1) pa_nil)) (pa_cons pe_int (pa_cons (pe_op op_pow pe_int pe_int) (pa_cons (pe_op op_add (pv 1) pe_int) (pa_cons pe_non pa_nil)))))))) (pe_call TK.G (hr.mono (by omega)) (by rfl) TK.m TK.k TK.b .nil pass0 (pa_cons (pv 0) (pa_cons pe_int pa_nil))) (fun _ _ => rfl))))
      pss_nil)
    (pss_cons (ps_if (pt_val (pe_callB call_isi (by rfl) T.isinstance (by decide +kernel) (pa_cons (pv 1) (pa_cons (pe_bltn (v := .ty "str") (by rfl) T.str (by decide +kernel) rfl) pa_nil))))
      (pss_cons (ps_set (i := 3) scSpoil.nd rfl (Or.inl rfl) (pe_lst (pa_cons (pe_op op_add_str (pv 1) pe_str) (pa_cons (pe_upper (pv 1)) (pa_cons pe_str (pa_cons pe_str (pa_cons (pe_slice sl_str (pv 1) po_none (po_some (pe_un un_neg pe_int))) (pa_cons (pe_op op_add_str (pv 1) pe_str) (pa_cons pe_str (pa_cons pe_str (pa_cons pe_str (pa_cons pe_str pa_nil))))))))))))
    (pss_one (ps_ret (pe_ix ix_list (pe_op op_cat (pv 3) (pe_lst (pa_cons pe_str (pa_cons pe_str (pa_cons pe_str (pa_cons pe_str (pa_cons pe_str (pa_cons pe_str (pa_cons pe_str (pa_cons pe_str (pa_cons pe_str pa_nil))))))))))) (pe_call TK.G (hr.mono (by omega)) (by rfl) TK.m TK.k TK.b .nil pass0 (pa_cons (pv 0) (pa_cons pe_int pa_nil))) (fun _ _ => rfl)))))
      pss_nil)
    (pss_one (ps_ret (pe_call AY.G (hr.mono (by omega)) (by rfl) AY.m AY.k AY.b .nil pass0 (pa_cons (pv 0) (pa_cons pe_int pa_nil))))))))), ?_⟩
  have hs : sizeLine = 16777216 := by decide
  have shd : SeqAt.shaped d = true := hp.shaped (by omega)
  have nS2 : 2 * m + 2 + nA 2 = nS m := rfl
  have nA2 : nA 2 = 68 := rfl
  cases hd with
  | @tup p xs ds hpm t =>
    obtain ⟨D1, W3, xs', hx', hP⟩ := Ps.of (.tup hpm t) hp
    rw [hpm] at hx'
    cases hx'
    have hpH := msk_same S H _ _ hpm
    have nps : p ∉ S := fun z => by unfold msk at hpm; rw [if_pos z] at hpm; cases hpm
    have npb : p ≠ b := fun z => nps (by rw [z]; exact hbS)
    have hl := t.len
    have hlen : ds.length ≤ 2000000 := by
      have := wts_len ds
      have := hP.w
      omega
    refine ⟨fun σ' H' => σ' = [some (.ref b), some (.ref p), none, none] ∧ But b H H' ∧ Bag H' b (n + nS m - 1), ?_, ?_⟩
    · refine ⟨_, rfl, _, _, _, _, true, rfl, .ty "tuple", .base (.tup hpH), kit_ty (by decide +kernel), _, rfl, ?_⟩
      refine iteT ?_
      refine ⟨_, rfl, (by show 0 ≤ sizeLine; decide), fun z0 nz0 => ?_⟩
      have s0 := same_new nz0 (.tup [])
      have e0 := upd_same (H := H) (a := z0) (o := .tup [])
      generalize upd H z0 (.tup []) = H0 at s0 e0 ⊢
      have d0 : Dp K H0 (.ref p) (.tuple ds) := (((DpU.tup hpm t).same (msk_keep (S := S) s0)).same (msk_same S _)).dp
      refine ⟨.tuple ds, .tuple [], d0, .tup (SqT.of e0) .nil, shd, by decide, _, rfl, ?_⟩
      rw [eqv_nil]
      cases ds with
      | nil => exact iteF ⟨rfl, But.of s0, (hB.same s0).less (by omega)⟩
      | cons d1 dr =>
        refine iteT ?_
        refine ⟨_, rfl, b, 5, n + nS m - 1, rfl, by decide, by decide, (hB.same s0).less (by omega), fun k H1 k0 k5 B1 U1 => ⟨_, _, rfl, rfl, _, rfl, ?_⟩⟩
        have U01 := (But.of (b := b) s0).trans U1
        refine ite2 (fun c => ?_) (fun c => ⟨rfl, U01, B1⟩)
        have hp1 := U01 _ _ npb hpH
        refine ⟨_, rfl, _, rfl, p, _, rfl, .inr (SqT.of hp1), b, (xs.length : Int), n + nS m - 2, rfl, by rw [hl]; simp, by rw [hl]; omega, B1.less (by omega), fun at0 H2 a0 a1 B2 U2 => ?_⟩
        obtain ⟨kk, rfl⟩ : ∃ kk : Nat, at0 = (kk : Int) := ⟨at0.toNat, (Int.toNat_of_nonneg a0).symm⟩
        have hkk : kk < xs.length := by omega
        obtain ⟨v1, ev⟩ : ∃ v, xs[kk]? = some v := ⟨_, List.getElem?_eq_getElem hkk⟩
        obtain ⟨g, eg, hg⟩ := t.get ev
        have hgm := List.mem_of_getElem? eg
        have hp2 := U2 _ _ npb hp1
        have U02 := U01.trans U2
        have hS2 := hS.but U02 B2
        have hmd : PySem.PyData.depthAll (d1 :: dr) + 1 ≤ m := hm
        have hm1 : 1 ≤ m := by omega
        obtain rfl := eB hm1
        have wat := wts_at eg
        have hw := hP.w
        refine ⟨_, rfl, _, rfl, (kk : Int), rfl, slA hS2 nps hp2 fun p1 H3 s3 np1 e3 => ?_⟩
        rw [cut_toV] at e3
        have hS3 := hS2.same s3
        have B3 := B2.same s3
        have n1b := bag_neT B3 e3
        have U03 := U02.trans (But.of s3)
        refine ⟨_, rfl, _, rfl, _, rfl, p, _, kk, v1, rfl, rfl, SqT.of (s3 _ _ hp2), atI_nat ev, b, v1, g, n, B, wt g, D - 1, S, rfl, hbS, hS3, B3.less (by rw [← nS2]; show n + (2 * (m - 1) + 2 + nA 2) ≤ _; omega), hg.same (msk_but hbS U03), ⟨hP.a g hgm, hP.dep g hgm, Nat.le_refl _⟩, dep_mem (by omega) hgm, by omega, b30, b100, by omega, fun v2 g2 H4 hv2 hg2 B4 U4 => ?_⟩
        refine ⟨(by show 1 ≤ sizeLine; decide), fun p2 np2 => ?_⟩
        have s5 := same_new np2 (.tup [v2])
        have e5 := upd_same (H := H4) (a := p2) (o := .tup [v2])
        have U04 := U03.trans U4
        have hS4 := hS3.but U4 B4
        have np2S := hS4.new np2
        generalize upd H4 p2 (.tup [v2]) = H5 at s5 e5 ⊢
        have hS5 := hS4.same s5
        refine catA hS5 np1 np2S (s5 _ _ (U4 _ _ n1b e3)) e5 (by rw [List.length_take, List.length_singleton]; omega) fun p3 H6 s6 np3 e6 => ?_
        have hp6 := s6 _ _ (s5 _ _ (U4 _ _ npb (s3 _ _ hp2)))
        have hS6 := hS5.same s6
        refine ⟨_, rfl, _, rfl, _, _, rfl, rfl, ((kk + 1 : Nat) : Int), rfl, ?_⟩
        dsimp only [tNoPart]
        refine slA hS6 nps hp6 fun p4 H7 s7 np4 e7 => ?_
        rw [cut_fromV] at e7
        have hS7 := hS6.same s7
        refine catA hS7 np3 np4 (s7 _ _ e6) e7 (by rw [List.length_append, List.length_take, List.length_drop, List.length_singleton]; omega) fun p5 H8 s8 np5 e8 => ?_
        have s48 := s5.trans (s6.trans (s7.trans s8))
        have U08 : But b H H8 := U04.trans (But.of s48)
        have k8 := msk_but hbS U08
        have P1 := ((hP.take kk).ex.same k8).up (Nat.le_succ B) (by omega : D - 1 ≤ D + 4) (Nat.le_refl _)
        have P3 := ((hP.drop (kk + 1)).ex.same k8).up (Nat.le_succ B) (by omega : D - 1 ≤ D + 4) (Nat.le_refl _)
        have P2 := Ps.one (hv2.same (msk_keep s48)) (hg2.up (Nat.le_refl _) (by omega : D - 1 + 5 ≤ D + 4) (Nat.le_refl _))
        have PP := ((P1.app P2).app P3).tup (msk_at np5 e8)
        exact q _ _ H8 PP.1 (PP.2.up (Nat.le_refl _) (Nat.le_refl _) (by show 3 + (wts _ + (3 * wt g + 20000 + 2) + wts _) ≤ 3 * W + 20000; omega)) (B4.same s48) U08
    rintro σ1 H1 ⟨rfl, U1, B1⟩
    have hp1 := U1 _ _ npb hpH
    have hS1 := hS.but U1 B1
    refine ⟨_, rfl, _, _, _, _, true, rfl, .ty "tuple", .base (.tup hp1), kit_ty (by decide +kernel), _, rfl, ?_⟩
    refine iteT ?_
    refine ⟨_, rfl, _, rfl, p, _, rfl, .inr (SqT.of hp1), _, _, rfl, rfl, b, (ds.length : Int) + 1, n + nS m - 2, by rw [hl]; rfl, by omega, by omega, B1.less (by rw [← nS2]; omega), fun at0 H2 a0 a1 B2 U2 => ?_⟩
    obtain ⟨kk, rfl⟩ : ∃ kk : Nat, at0 = (kk : Int) := ⟨at0.toNat, (Int.toNat_of_nonneg a0).symm⟩
    have hp2 := U2 _ _ npb hp1
    have U02 := U1.trans U2
    have hS2 := hS1.but U2 B2
    have P2 := hP.same (msk_but hbS U02)
    -- the first: one left out
    have lenOf : ∀ {G : Hp} {b n m : Nat} {ys : List V} {es : List PyData}, Ps G b n m ys es → ys.length * 2 ≤ m := fun P => by rw [P.t.len]; exact Nat.le_trans (wts_len _) P.w
    refine ⟨_, rfl, _, rfl, (kk : Int), rfl, slA hS2 nps hp2 fun p1 H3 s3 n_p1 e_p1 => ?_⟩
    have hS3 := hS2.same s3
    obtain ⟨w_p1, Q_p1⟩ := (P2.same (msk_keep (S := S) (s3))).cut (none) (some ((kk : Nat) : Int))
    refine ⟨_, rfl, _, rfl, _, _, rfl, rfl, ((kk + 1 : Nat) : Int), rfl, ?_⟩
    dsimp only [tNoPart]
    refine slA hS3 nps ((s3) _ _ hp2) fun p2 H4 s4 n_p2 e_p2 => ?_
    have hS4 := hS3.same s4
    obtain ⟨w_p2, Q_p2⟩ := (P2.same (msk_keep (S := S) (s3.trans (s4)))).cut (some ((kk + 1 : Nat) : Int)) (none)
    refine (catA hS4 n_p1 n_p2 ((s4) _ _ e_p1) e_p2 (by have := lenOf Q_p1; have := lenOf Q_p2; omega) fun p3 H5 s5 n_p3 e_p3 => ?_)
    have hS5 := hS4.same s5
    have Q_p3 := (Q_p1.same (msk_keep (S := S) (s4.trans (s5)))).app (Q_p2.same (msk_keep (S := S) (s5)))
    refine ⟨_, rfl, _, rfl, (kk : Int), rfl, slA hS5 nps ((s3.trans (s4.trans (s5))) _ _ hp2) fun p4 H6 s6 n_p4 e_p4 => ?_⟩
    have hS6 := hS5.same s6
    obtain ⟨w_p4, Q_p4⟩ := (P2.same (msk_keep (S := S) (s3.trans (s4.trans (s5.trans (s6)))))).cut (none) (some ((kk : Nat) : Int))
    refine ⟨_, rfl, _, rfl, (kk : Int), rfl, slA hS6 nps ((s3.trans (s4.trans (s5.trans (s6)))) _ _ hp2) fun p5 H7 s7 n_p5 e_p5 => ?_⟩
    have hS7 := hS6.same s7
    obtain ⟨w_p5, Q_p5⟩ := (P2.same (msk_keep (S := S) (s3.trans (s4.trans (s5.trans (s6.trans (s7))))))).cut (none) (some ((kk : Nat) : Int))
    refine ⟨_, rfl, (-1 : Int), rfl, ?_⟩
    dsimp only [tNoPart]
    refine slA hS7 n_p5 e_p5 fun p6 H8 s8 n_p6 e_p6 => ?_
    have hS8 := hS7.same s8
    obtain ⟨w_p6, Q_p6⟩ := (Q_p5.same (msk_keep (S := S) (s8))).cut (some (-1)) (none)
    refine (catA hS8 n_p4 n_p6 ((s7.trans (s8)) _ _ e_p4) e_p6 (by have := lenOf Q_p4; have := lenOf Q_p6; omega) fun p7 H9 s9 n_p7 e_p7 => ?_)
    have hS9 := hS8.same s9
    have Q_p7 := (Q_p4.same (msk_keep (S := S) (s7.trans (s8.trans (s9))))).app (Q_p6.same (msk_keep (S := S) (s9)))
    refine ⟨_, rfl, _, rfl, (kk : Int), rfl, ?_⟩
    dsimp only [tNoPart]
    refine slA hS9 nps ((s3.trans (s4.trans (s5.trans (s6.trans (s7.trans (s8.trans (s9))))))) _ _ hp2) fun p8 H10 s10 n_p8 e_p8 => ?_
    have hS10 := hS9.same s10
    obtain ⟨w_p8, Q_p8⟩ := (P2.same (msk_keep (S := S) (s3.trans (s4.trans (s5.trans (s6.trans (s7.trans (s8.trans (s9.trans (s10)))))))))).cut (some ((kk : Nat) : Int)) (none)
    refine (catA hS10 n_p7 n_p8 ((s10) _ _ e_p7) e_p8 (by have := lenOf Q_p7; have := lenOf Q_p8; omega) fun p9 H11 s11 n_p9 e_p9 => ?_)
    have hS11 := hS10.same s11
    have Q_p9 := (Q_p7.same (msk_keep (S := S) (s10.trans (s11)))).app (Q_p8.same (msk_keep (S := S) (s11)))
    refine ⟨_, rfl, p, _, rfl, .inr (SqT.of ((s3.trans (s4.trans (s5.trans (s6.trans (s7.trans (s8.trans (s9.trans (s10.trans (s11))))))))) _ _ hp2)), fun p10 wp10 => ?_⟩
    have s12 := same_new wp10 (.lst xs)
    have e_p10 := upd_same (H := H11) (a := p10) (o := (.lst xs))
    have n_p10 := hS11.new wp10
    generalize upd H11 p10 (.lst xs) = H12 at s12 e_p10 ⊢
    have hS12 := hS11.same s12
    refine ⟨_, rfl, p, xs, rfl, ((s3.trans (s4.trans (s5.trans (s6.trans (s7.trans (s8.trans (s9.trans (s10.trans (s11.trans (s12)))))))))) _ _ hp2), fun p11 wp11 => ?_⟩
    have s13 := same_new wp11 (.tup xs.reverse)
    have e_p11 := upd_same (H := H12) (a := p11) (o := (.tup xs.reverse))
    have n_p11 := hS12.new wp11
    generalize upd H12 p11 (.tup xs.reverse) = H13 at s13 e_p11 ⊢
    have hS13 := hS12.same s13
    refine ⟨(by show 4 ≤ sizeLine; decide), fun l4 wl4 => ?_⟩
    have s14 := same_new wl4 (.lst [V.ref p3, V.ref p9, V.ref p10, V.ref p11])
    have e_l4 := upd_same (H := H13) (a := l4) (o := (.lst [V.ref p3, V.ref p9, V.ref p10, V.ref p11]))
    have n_l4 := hS13.new wl4
    generalize upd H13 l4 (.lst [V.ref p3, V.ref p9, V.ref p10, V.ref p11]) = H14 at s14 e_l4 ⊢
    have hS14 := hS13.same s14
    refine ⟨_, rfl, _, rfl, (by show 1 ≤ sizeLine; decide), fun t1 wt1 => ?_⟩
    have s15 := same_new wt1 (.tup [V.non])
    have e_t1 := upd_same (H := H14) (a := t1) (o := (.tup [V.non]))
    have n_t1 := hS14.new wt1
    generalize upd H14 t1 (.tup [V.non]) = H15 at s15 e_t1 ⊢
    have hS15 := hS14.same s15
    have Q_t1 : Ps (msk S H15) B 4 6 [V.non] [.none] := Ps.one .non ⟨rfl, Nat.zero_le _, (by decide)⟩
    refine (catA hS15 nps n_t1 ((s3.trans (s4.trans (s5.trans (s6.trans (s7.trans (s8.trans (s9.trans (s10.trans (s11.trans (s12.trans (s13.trans (s14.trans (s15))))))))))))) _ _ hp2) e_t1 (by have := lenOf P2; have := lenOf Q_t1; omega) fun p12 H16 s16 n_p12 e_p12 => ?_)
    have hS16 := hS15.same s16
    have Q_p12 := ((P2.same (msk_keep (S := S) (s3.trans (s4.trans (s5.trans (s6.trans (s7.trans (s8.trans (s9.trans (s10.trans (s11.trans (s12.trans (s13.trans (s14.trans (s15.trans (s16)))))))))))))))).up (Nat.le_refl _) (by omega : D - 1 ≤ D + 3) (Nat.le_refl _)).app ((Q_t1.same (msk_keep (S := S) (s16))).up (Nat.le_refl _) (by omega : _ ≤ D + 3) (Nat.le_refl _))
    refine ⟨_, rfl, (by show 2 ≤ sizeLine; decide), fun t2 wt2 => ?_⟩
    have s17 := same_new wt2 (.tup [V.str "number", V.int 1])
    have e_t2 := upd_same (H := H16) (a := t2) (o := (.tup [V.str "number", V.int 1]))
    have n_t2 := hS16.new wt2
    generalize upd H16 t2 (.tup [V.str "number", V.int 1]) = H17 at s17 e_t2 ⊢
    have hS17 := hS16.same s17
    refine ⟨(by show 2 ≤ sizeLine; decide), fun t3 wt3 => ?_⟩
    have s18 := same_new wt3 (.tup [V.str "give", V.ref t2])
    have e_t3 := upd_same (H := H17) (a := t3) (o := (.tup [V.str "give", V.ref t2]))
    have n_t3 := hS17.new wt3
    generalize upd H17 t3 (.tup [V.str "give", V.ref t2]) = H18 at s18 e_t3 ⊢
    have hS18 := hS17.same s18
    refine ⟨(by show 1 ≤ sizeLine; decide), fun t4 wt4 => ?_⟩
    have s19 := same_new wt4 (.tup [V.ref t3])
    have e_t4 := upd_same (H := H18) (a := t4) (o := (.tup [V.ref t3]))
    have n_t4 := hS18.new wt4
    generalize upd H18 t4 (.tup [V.ref t3]) = H19 at s19 e_t4 ⊢
    have hS19 := hS18.same s19
    have dg : DpU (msk S H19) (V.ref t3) (.tuple [.str "give", .tuple [.str "number", .int 1]]) := .tup (msk_at n_t3 ((s19) _ _ e_t3)) (.cons (.str _) (.cons (.tup (msk_at n_t2 ((s18.trans (s19)) _ _ e_t2)) (.cons (.str _) (.cons (.int _) .nil))) .nil))
    have Q_t4 : Ps (msk S H19) B 3 402 [V.ref t3] [_] := Ps.one dg ⟨asc_up (b := 1) (by omega) (by decide +kernel), (by decide +kernel), (by decide +kernel)⟩
    refine (catA hS19 nps n_t4 ((s3.trans (s4.trans (s5.trans (s6.trans (s7.trans (s8.trans (s9.trans (s10.trans (s11.trans (s12.trans (s13.trans (s14.trans (s15.trans (s16.trans (s17.trans (s18.trans (s19))))))))))))))))) _ _ hp2) e_t4 (by have := lenOf P2; have := lenOf Q_t4; omega) fun p13 H20 s20 n_p13 e_p13 => ?_)
    have hS20 := hS19.same s20
    have Q_p13 := ((P2.same (msk_keep (S := S) (s3.trans (s4.trans (s5.trans (s6.trans (s7.trans (s8.trans (s9.trans (s10.trans (s11.trans (s12.trans (s13.trans (s14.trans (s15.trans (s16.trans (s17.trans (s18.trans (s19.trans (s20)))))))))))))))))))).up (Nat.le_refl _) (by omega : D - 1 ≤ D + 3) (Nat.le_refl _)).app ((Q_t4.same (msk_keep (S := S) (s20))).up (Nat.le_refl _) (by omega : _ ≤ D + 3) (Nat.le_refl _))
    refine ⟨(by show 2 ≤ sizeLine; decide), fun l2 wl2 => ?_⟩
    have s21 := same_new wl2 (.lst [V.ref p12, V.ref p13])
    have e_l2 := upd_same (H := H20) (a := l2) (o := (.lst [V.ref p12, V.ref p13]))
    have n_l2 := hS20.new wl2
    generalize upd H20 l2 (.lst [V.ref p12, V.ref p13]) = H21 at s21 e_l2 ⊢
    have hS21 := hS20.same s21
    refine ⟨l4, l2, _, _, rfl, rfl, ((s15.trans (s16.trans (s17.trans (s18.trans (s19.trans (s20.trans (s21))))))) _ _ e_l4), e_l2, (by show 6 ≤ sizeLine; decide), fun l6 wl6 => ?_⟩
    have s22 := same_new wl6 (.lst ([V.ref p3, V.ref p9, V.ref p10, V.ref p11] ++ [V.ref p12, V.ref p13]))
    have e_l6 := upd_same (H := H21) (a := l6) (o := (.lst ([V.ref p3, V.ref p9, V.ref p10, V.ref p11] ++ [V.ref p12, V.ref p13])))
    have n_l6 := hS21.new wl6
    generalize upd H21 l6 (.lst ([V.ref p3, V.ref p9, V.ref p10, V.ref p11] ++ [V.ref p12, V.ref p13])) = H22 at s22 e_l6 ⊢
    have hS22 := hS21.same s22
    have V_p3 := (Q_p3.same (msk_keep (S := S) (s6.trans (s7.trans (s8.trans (s9.trans (s10.trans (s11.trans (s12.trans (s13.trans (s14.trans (s15.trans (s16.trans (s17.trans (s18.trans (s19.trans (s20.trans (s21.trans (s22))))))))))))))))))).tup (msk_at n_p3 ((s6.trans (s7.trans (s8.trans (s9.trans (s10.trans (s11.trans (s12.trans (s13.trans (s14.trans (s15.trans (s16.trans (s17.trans (s18.trans (s19.trans (s20.trans (s21.trans (s22))))))))))))))))) _ _ e_p3))
    have V_p9 := (Q_p9.same (msk_keep (S := S) (s12.trans (s13.trans (s14.trans (s15.trans (s16.trans (s17.trans (s18.trans (s19.trans (s20.trans (s21.trans (s22))))))))))))).tup (msk_at n_p9 ((s12.trans (s13.trans (s14.trans (s15.trans (s16.trans (s17.trans (s18.trans (s19.trans (s20.trans (s21.trans (s22))))))))))) _ _ e_p9))
    have V_p12 := (Q_p12.same (msk_keep (S := S) (s17.trans (s18.trans (s19.trans (s20.trans (s21.trans (s22)))))))).tup (msk_at n_p12 ((s17.trans (s18.trans (s19.trans (s20.trans (s21.trans (s22)))))) _ _ e_p12))
    have V_p13 := (Q_p13.same (msk_keep (S := S) (s21.trans (s22)))).tup (msk_at n_p13 ((s21.trans (s22)) _ _ e_p13))
    have V_p10 := (P2.same (msk_keep (S := S) (s3.trans (s4.trans (s5.trans (s6.trans (s7.trans (s8.trans (s9.trans (s10.trans (s11.trans (s12.trans (s13.trans (s14.trans (s15.trans (s16.trans (s17.trans (s18.trans (s19.trans (s20.trans (s21.trans (s22)))))))))))))))))))))).lst (msk_at n_p10 ((s13.trans (s14.trans (s15.trans (s16.trans (s17.trans (s18.trans (s19.trans (s20.trans (s21.trans (s22)))))))))) _ _ e_p10))
    have V_p11 := (P2.rev.same (msk_keep (S := S) (s3.trans (s4.trans (s5.trans (s6.trans (s7.trans (s8.trans (s9.trans (s10.trans (s11.trans (s12.trans (s13.trans (s14.trans (s15.trans (s16.trans (s17.trans (s18.trans (s19.trans (s20.trans (s21.trans (s22)))))))))))))))))))))).tup (msk_at n_p11 ((s14.trans (s15.trans (s16.trans (s17.trans (s18.trans (s19.trans (s20.trans (s21.trans (s22))))))))) _ _ e_p11))
    have B22 := B2.same (s3.trans (s4.trans (s5.trans (s6.trans (s7.trans (s8.trans (s9.trans (s10.trans (s11.trans (s12.trans (s13.trans (s14.trans (s15.trans (s16.trans (s17.trans (s18.trans (s19.trans (s20.trans (s21.trans (s22))))))))))))))))))))
    have U022 : But b H H22 := U02.trans (But.of (s3.trans (s4.trans (s5.trans (s6.trans (s7.trans (s8.trans (s9.trans (s10.trans (s11.trans (s12.trans (s13.trans (s14.trans (s15.trans (s16.trans (s17.trans (s18.trans (s19.trans (s20.trans (s21.trans (s22)))))))))))))))))))))
    refine ⟨_, rfl, b, 6, n + nS m - 3, rfl, by decide, by decide, B22.less (by rw [← nS2]; omega), fun k G k0 k6 BG UG => ?_⟩
    obtain ⟨kN, rfl⟩ : ∃ kN : Nat, k = (kN : Int) := ⟨k.toNat, (Int.toNat_of_nonneg k0).symm⟩
    have nl6 : l6 ≠ b := fun z => n_l6 (by rw [z]; exact hbS)
    have kG := msk_but (S := S) hbS UG
    have fin : ∀ {v : V} {g : PyData} {nn mm : Nat}, DpU (msk S H22) v g → Pl B nn mm g → nn ≤ D + 5 → mm ≤ wS W → Q v G := fun hv hg a c => q _ _ G (hv.same kG) (hg.up (Nat.le_succ B) a c) (BG.less (by rw [← nS2]; omega)) (U022.trans UG)
    have wW : wS W = 3 * W + 20000 := rfl
    have eG := UG _ _ nl6 e_l6
    have k7 : kN < 6 := by omega
    match kN, k7 with
    | 0, _ => exact ⟨l6, _, 0, _, rfl, rfl, SqL.of eG, atI_nat (j := 0) rfl, fin V_p3.1 V_p3.2 (by omega) (by omega)⟩
    | 1, _ => exact ⟨l6, _, 1, _, rfl, rfl, SqL.of eG, atI_nat (j := 1) rfl, fin V_p9.1 V_p9.2 (by omega) (by omega)⟩
    | 2, _ => exact ⟨l6, _, 2, _, rfl, rfl, SqL.of eG, atI_nat (j := 2) rfl, fin V_p10.1 V_p10.2 (by omega) (by omega)⟩
    | 3, _ => exact ⟨l6, _, 3, _, rfl, rfl, SqL.of eG, atI_nat (j := 3) rfl, fin V_p11.1 V_p11.2 (by omega) (by omega)⟩
    | 4, _ => exact ⟨l6, _, 4, _, rfl, rfl, SqL.of eG, atI_nat (j := 4) rfl, fin V_p12.1 V_p12.2 (by omega) (by omega)⟩
    | 5, _ => exact ⟨l6, _, 5, _, rfl, rfl, SqL.of eG, atI_nat (j := 5) rfl, fin V_p13.1 V_p13.2 (by omega) (by omega)⟩
  | int i =>
    refine ⟨fun σ' H' => σ' = [some (.ref b), some (V.int i), none, none] ∧ H' = H, ⟨_, rfl, _, _, _, _, false, rfl, .ty "tuple", .base (.int i), kit_ty (by decide +kernel), _, rfl, iteF ⟨rfl, rfl⟩⟩, ?_⟩
    rintro σ1 H1 ⟨rfl, rfl⟩
    refine ⟨_, rfl, _, _, _, _, false, rfl, .ty "tuple", .base (.int i), kit_ty (by decide +kernel), _, rfl, ?_⟩
    refine iteF ?_
    refine ⟨_, rfl, _, _, _, _, true, rfl, .ty "int", .base (.int i), kit_ty (by decide +kernel), _, rfl, ?_⟩
    refine iteT ?_
    refine ⟨_, rfl, _, _, _, _, false, rfl, .ty "bool", .base (.int i), kit_ty (by decide +kernel), _, rfl, ?_⟩
    refine iteT ?_
    have n30 : ((10 : Int) ^ Int.toNat 30).natAbs = 10 ^ 30 := by decide +kernel
    have p30 : CPow 10 30 := ⟨by decide, by decide, by decide⟩
    have ib : i.natAbs ≤ B := of_decide_eq_true hp.a
    have il := nice_int (n := 0) (i := i) (by omega)
    have ls : (Str.ofString (toString i)).length ≤ 101 := il.sz
    refine ⟨1, rfl, _, rfl, _, _, rfl, rfl, _, rfl, rfl, _, rfl, i, rfl, of_decide_eq_true il.sh, _, _, rfl, rfl, p30, _, rfl, _, _, rfl, rfl, (by show 7 ≤ sizeLine; decide), fun l nl => ?_⟩
    have s1 := same_new nl (.lst [V.int (-1 - i), V.bl (decide (V.int i = V.int 0)), V.str (toString i), V.int 1001, V.int (10 ^ Int.toNat 30), V.int (i + 1), V.non])
    have e1 := upd_same (H := H1) (a := l) (o := .lst [V.int (-1 - i), V.bl (decide (V.int i = V.int 0)), V.str (toString i), V.int 1001, V.int (10 ^ Int.toNat 30), V.int (i + 1), V.non])
    have nlb := bag_ne hB nl
    generalize upd H1 l (.lst [V.int (-1 - i), V.bl (decide (V.int i = V.int 0)), V.str (toString i), V.int 1001, V.int (10 ^ Int.toNat 30), V.int (i + 1), V.non]) = H2 at s1 e1 ⊢
    refine ⟨_, rfl, b, 7, n + nS m - 1, rfl, by decide, by decide, (hB.same s1).less (by rw [← nS2]; omega), fun k G k0 k7 BG UG => ?_⟩
    obtain ⟨kN, rfl⟩ : ∃ kN : Nat, k = (kN : Int) := ⟨k.toNat, (Int.toNat_of_nonneg k0).symm⟩
    have eG := UG _ _ nlb e1
    have U0G : But b H1 G := (But.of s1).trans UG
    have fin : ∀ {v : V} {g : PyData}, DpU (msk S G) v g → Pl (B + 1) 0 20000 g → Q v G := fun hv hg => q _ _ G hv (hg.up (Nat.le_refl _) (by omega) (by show 20000 ≤ 3 * W + 20000; omega)) (BG.less (by rw [← nS2]; omega)) U0G
    have num : ∀ z : Int, z.natAbs ≤ B + 1 → Pl (B + 1) 0 20000 (.int z) := fun z h => ⟨decide_eq_true h, Nat.zero_le _, by show 101 ≤ 20000; omega⟩
    have k7' : kN < 7 := by omega
    match kN, k7' with
    | 0, _ => exact ⟨l, _, 0, _, rfl, rfl, SqL.of eG, atI_nat (j := 0) rfl, fin (.int _) (num _ (by omega))⟩
    | 1, _ => exact ⟨l, _, 1, _, rfl, rfl, SqL.of eG, atI_nat (j := 1) rfl, fin (.bl _) ⟨rfl, Nat.zero_le _, by show 5 ≤ 20000; omega⟩⟩
    | 2, _ => exact ⟨l, _, 2, _, rfl, rfl, SqL.of eG, atI_nat (j := 2) rfl, fin (.str _) (pl_str (int_asc i) (by omega))⟩
    | 3, _ => exact ⟨l, _, 3, _, rfl, rfl, SqL.of eG, atI_nat (j := 3) rfl, fin (.int _) (num _ (by show 1001 ≤ B + 1; omega))⟩
    | 4, _ => exact ⟨l, _, 4, _, rfl, rfl, SqL.of eG, atI_nat (j := 4) rfl, fin (.int _) (num _ (by rw [n30]; omega))⟩
    | 5, _ => exact ⟨l, _, 5, _, rfl, rfl, SqL.of eG, atI_nat (j := 5) rfl, fin (.int _) (num _ (by omega))⟩
    | 6, _ => exact ⟨l, _, 6, _, rfl, rfl, SqL.of eG, atI_nat (j := 6) rfl, fin .non ⟨rfl, Nat.zero_le _, by show 4 ≤ 20000; omega⟩⟩
  | bl c =>
    refine ⟨fun σ' H' => σ' = [some (.ref b), some (V.bl c), none, none] ∧ H' = H, ⟨_, rfl, _, _, _, _, false, rfl, .ty "tuple", .base (.bl c), kit_ty (by decide +kernel), _, rfl, iteF ⟨rfl, rfl⟩⟩, ?_⟩
    rintro σ1 H1 ⟨rfl, rfl⟩
    refine ⟨_, rfl, _, _, _, _, false, rfl, .ty "tuple", .base (.bl c), kit_ty (by decide +kernel), _, rfl, ?_⟩
    refine iteF ?_
    refine ⟨_, rfl, _, _, _, _, true, rfl, .ty "int", .base (.bl c), kit_ty (by decide +kernel), _, rfl, ?_⟩
    refine iteT ?_
    refine ⟨_, rfl, _, _, _, _, true, rfl, .ty "bool", .base (.bl c), kit_ty (by decide +kernel), _, rfl, ?_⟩
    refine iteF ?_
    refine ⟨_, rfl, _, _, _, _, false, rfl, .ty "str", .base (.bl c), kit_ty (by decide +kernel), _, rfl, ?_⟩
    refine iteF ?_
    exact ⟨_, rfl, b, n, S, rfl, hbS, hS, hB.less (by rw [← nS2]; omega), fun v2 g2 H2 hv2 hg2 B2 U2 => q v2 g2 H2 hv2 (hg2.up (show 10 ^ 30 ≤ B + 1 by omega) (by omega) (by show wA 2 ≤ 3 * W + 20000; have : wA 2 = 15078 := rfl; omega)) B2 U2⟩
  | non =>
    refine ⟨fun σ' H' => σ' = [some (.ref b), some (V.non), none, none] ∧ H' = H, ⟨_, rfl, _, _, _, _, false, rfl, .ty "tuple", .base .non, kit_ty (by decide +kernel), _, rfl, iteF ⟨rfl, rfl⟩⟩, ?_⟩
    rintro σ1 H1 ⟨rfl, rfl⟩
    refine ⟨_, rfl, _, _, _, _, false, rfl, .ty "tuple", .base .non, kit_ty (by decide +kernel), _, rfl, ?_⟩
    refine iteF ?_
    refine ⟨_, rfl, _, _, _, _, false, rfl, .ty "int", .base .non, kit_ty (by decide +kernel), _, rfl, ?_⟩
    refine iteF ?_
    refine ⟨_, rfl, _, _, _, _, false, rfl, .ty "str", .base .non, kit_ty (by decide +kernel), _, rfl, ?_⟩
    refine iteF ?_
    exact ⟨_, rfl, b, n, S, rfl, hbS, hS, hB.less (by rw [← nS2]; omega), fun v2 g2 H2 hv2 hg2 B2 U2 => q v2 g2 H2 hv2 (hg2.up (show 10 ^ 30 ≤ B + 1 by omega) (by omega) (by show wA 2 ≤ 3 * W + 20000; have : wA 2 = 15078 := rfl; omega)) B2 U2⟩
  | lst h tt =>
    have hH := msk_same S H _ _ h
    refine ⟨fun σ' H' => σ' = [some (.ref b), some (V.ref _), none, none] ∧ H' = H, ⟨_, rfl, _, _, _, _, false, rfl, .ty "tuple", .base (.lst hH), kit_ty (by decide +kernel), _, rfl, iteF ⟨rfl, rfl⟩⟩, ?_⟩
    rintro σ1 H1 ⟨rfl, rfl⟩
    refine ⟨_, rfl, _, _, _, _, false, rfl, .ty "tuple", .base (.lst hH), kit_ty (by decide +kernel), _, rfl, ?_⟩
    refine iteF ?_
    refine ⟨_, rfl, _, _, _, _, false, rfl, .ty "int", .base (.lst hH), kit_ty (by decide +kernel), _, rfl, ?_⟩
    refine iteF ?_
    refine ⟨_, rfl, _, _, _, _, false, rfl, .ty "str", .base (.lst hH), kit_ty (by decide +kernel), _, rfl, ?_⟩
    refine iteF ?_
    exact ⟨_, rfl, b, n, S, rfl, hbS, hS, hB.less (by rw [← nS2]; omega), fun v2 g2 H2 hv2 hg2 B2 U2 => q v2 g2 H2 hv2 (hg2.up (show 10 ^ 30 ≤ B + 1 by omega) (by omega) (by show wA 2 ≤ 3 * W + 20000; have : wA 2 = 15078 := rfl; omega)) B2 U2⟩
  | str x =>
    refine ⟨fun σ' H' => σ' = [some (.ref b), some (V.str x), none, none] ∧ H' = H, ⟨_, rfl, _, _, _, _, false, rfl, .ty "tuple", .base (.str x), kit_ty (by decide +kernel), _, rfl, iteF ⟨rfl, rfl⟩⟩, ?_⟩
    rintro σ1 H1 ⟨rfl, rfl⟩
    refine ⟨_, rfl, _, _, _, _, false, rfl, .ty "tuple", .base (.str x), kit_ty (by decide +kernel), _, rfl, ?_⟩
    refine iteF ?_
    refine ⟨_, rfl, _, _, _, _, false, rfl, .ty "int", .base (.str x), kit_ty (by decide +kernel), _, rfl, ?_⟩
    refine iteF ?_
    refine ⟨_, rfl, _, _, _, _, true, rfl, .ty "str", .base (.str x), kit_ty (by decide +kernel), _, rfl, ?_⟩
    refine iteT ?_
    have xa : ∀ c ∈ x.cps.toList, c < 128 := asc_list.mp hp.a
    have xw : 10 * x.length + 2 ≤ W := hp.w
    have la : ("a" : Str).length = 1 := by decide
    have l1' : ("1" : Str).length = 1 := by decide
    refine ⟨_, rfl, _, _, rfl, rfl, (by rw [la]; omega), _, rfl, ⟨x, rfl⟩, x, rfl, rfl, (by omega), _, rfl, _, rfl, (-1 : Int), rfl, x, rfl, (by omega), _, rfl, _, _, rfl, rfl, (by rw [l1']; omega), (by show 10 ≤ sizeLine; decide), fun l nl => ?_⟩
    have s1 := same_new nl (.lst [V.str (x ++ "a"), V.str (PySem.Txt.upper x), V.str "", V.str "end", V.str (cutS x none (some (-1))), V.str (x ++ "1"), V.str "abcdefghi", V.str "fail", V.str "wait", V.str "*"])
    have e1 := upd_same (H := H1) (a := l) (o := .lst [V.str (x ++ "a"), V.str (PySem.Txt.upper x), V.str "", V.str "end", V.str (cutS x none (some (-1))), V.str (x ++ "1"), V.str "abcdefghi", V.str "fail", V.str "wait", V.str "*"])
    have nlb := bag_ne hB nl
    generalize upd H1 l (.lst [V.str (x ++ "a"), V.str (PySem.Txt.upper x), V.str "", V.str "end", V.str (cutS x none (some (-1))), V.str (x ++ "1"), V.str "abcdefghi", V.str "fail", V.str "wait", V.str "*"]) = H2 at s1 e1 ⊢
    refine ⟨_, rfl, (by show 9 ≤ sizeLine; decide), fun l2 nl2 => ?_⟩
    have s2 := same_new nl2 (.lst [V.str "put", V.str "go", V.str "call", V.str "if", V.str "give", V.str "name", V.str "number", V.str "<", V.str "=="])
    have e2 := upd_same (H := H2) (a := l2) (o := .lst [V.str "put", V.str "go", V.str "call", V.str "if", V.str "give", V.str "name", V.str "number", V.str "<", V.str "=="])
    generalize upd H2 l2 (.lst [V.str "put", V.str "go", V.str "call", V.str "if", V.str "give", V.str "name", V.str "number", V.str "<", V.str "=="]) = H3 at s2 e2 ⊢
    refine ⟨l, l2, _, _, rfl, rfl, s2 _ _ e1, e2, (by show 19 ≤ sizeLine; decide), fun l3 nl3 => ?_⟩
    have s3 := same_new nl3 (.lst ([V.str (x ++ "a"), V.str (PySem.Txt.upper x), V.str "", V.str "end", V.str (cutS x none (some (-1))), V.str (x ++ "1"), V.str "abcdefghi", V.str "fail", V.str "wait", V.str "*"] ++ [V.str "put", V.str "go", V.str "call", V.str "if", V.str "give", V.str "name", V.str "number", V.str "<", V.str "=="]))
    have e3 := upd_same (H := H3) (a := l3) (o := .lst ([V.str (x ++ "a"), V.str (PySem.Txt.upper x), V.str "", V.str "end", V.str (cutS x none (some (-1))), V.str (x ++ "1"), V.str "abcdefghi", V.str "fail", V.str "wait", V.str "*"] ++ [V.str "put", V.str "go", V.str "call", V.str "if", V.str "give", V.str "name", V.str "number", V.str "<", V.str "=="]))
    have B3 := (hB.same s1).same s2
    have nlb3 := bag_ne B3 nl3
    generalize upd H3 l3 (.lst ([V.str (x ++ "a"), V.str (PySem.Txt.upper x), V.str "", V.str "end", V.str (cutS x none (some (-1))), V.str (x ++ "1"), V.str "abcdefghi", V.str "fail", V.str "wait", V.str "*"] ++ [V.str "put", V.str "go", V.str "call", V.str "if", V.str "give", V.str "name", V.str "number", V.str "<", V.str "=="])) = H4 at s3 e3 ⊢
    refine ⟨_, rfl, b, 19, n + nS m - 1, rfl, by decide, by decide, (B3.same s3).less (by rw [← nS2]; omega), fun k G k0 k7 BG UG => ?_⟩
    obtain ⟨kN, rfl⟩ : ∃ kN : Nat, k = (kN : Int) := ⟨k.toNat, (Int.toNat_of_nonneg k0).symm⟩
    have eG := UG _ _ nlb3 e3
    have U0G : But b H1 G := (But.of (s1.trans (s2.trans s3))).trans UG
    have all : ∀ s ∈ (([x ++ "a", PySem.Txt.upper x, "", "end", cutS x none (some (-1)), x ++ "1", "abcdefghi", "fail", "wait", "*"] : List Str) ++ (["put", "go", "call", "if", "give", "name", "number", "<", "=="] : List Str)), s.cps.all (· < 128) = true ∧ s.length ≤ x.length + 9 := by
      intro s hs
      simp only [List.cons_append, List.nil_append, List.mem_cons, List.not_mem_nil, or_false] at hs
      have u := asc_upper xa
      have c := asc_cut xa none (some (-1))
      have lit : ∀ t : Str, t.cps.all (· < 128) = true → t.length ≤ 9 → t.cps.all (· < 128) = true ∧ t.length ≤ x.length + 9 := fun t a l => ⟨a, by omega⟩
      rcases hs with rfl | rfl | rfl | rfl | rfl | rfl | rfl | rfl | rfl | rfl | rfl | rfl | rfl | rfl | rfl | rfl | rfl | rfl | rfl
      · exact ⟨asc_app (asc_list.mpr xa) (by decide +kernel), by rw [strLen_append, la]; omega⟩
      · exact ⟨u.1, by omega⟩
      · exact lit _ (by decide +kernel) (by decide +kernel)
      · exact lit _ (by decide +kernel) (by decide +kernel)
      · exact ⟨c.1, by omega⟩
      · exact ⟨asc_app (asc_list.mpr xa) (by decide +kernel), by rw [strLen_append, l1']; omega⟩
      all_goals exact lit _ (by decide +kernel) (by decide +kernel)
    obtain ⟨s, es⟩ : ∃ s, (([x ++ "a", PySem.Txt.upper x, "", "end", cutS x none (some (-1)), x ++ "1", "abcdefghi", "fail", "wait", "*"] : List Str) ++ (["put", "go", "call", "if", "give", "name", "number", "<", "=="] : List Str))[kN]? = some s := ⟨_, List.getElem?_eq_getElem (by show kN < 19; omega)⟩
    have ev : ([V.str (x ++ "a"), V.str (PySem.Txt.upper x), V.str "", V.str "end", V.str (cutS x none (some (-1))), V.str (x ++ "1"), V.str "abcdefghi", V.str "fail", V.str "wait", V.str "*"] ++ [V.str "put", V.str "go", V.str "call", V.str "if", V.str "give", V.str "name", V.str "number", V.str "<", V.str "=="])[kN]? = some (V.str s) := by
      have := congrArg (Option.map V.str) es
      rw [← List.getElem?_map] at this
      exact this
    obtain ⟨sa, sl⟩ := all s (List.mem_of_getElem? es)
    exact ⟨l3, _, kN, _, rfl, rfl, SqL.of eG, atI_nat (j := kN) ev, q _ _ G (.str s) (pl_str sa (by show _ ≤ 3 * W + 20000; omega)) (BG.less (by rw [← nS2]; omega)) U0G⟩
end
end SH

set_option Elab.async false
set_option linter.all false
set_option maxRecDepth 100000
namespace SH
open PySem L2
abbrev sTwin : Stmt := topS 62
theorem scTwin : FnScope ["_law_thing", "_law_one"] ["_law_thing"] (defScope sTwin) := ⟨rfl, rfl, rfl, by decide +kernel, rfl, by decide +kernel, by decide +kernel⟩
theorem msk_more {S : List Addr} {a : Addr} {H H' : Hp} (e : H a = none) (s : Same H H') : Same (msk S H) (msk (a :: S) H') := fun x o h => by
  unfold msk at h ⊢
  by_cases z : x ∈ S
  · rw [if_pos z] at h; cases h
  · rw [if_neg z] at h
    have : x ≠ a := fun y => by rw [y, e] at h; cases h
    rw [if_neg (fun y => (List.mem_cons.mp y).elim this z)]
    exact s _ _ h
def spTwin (m : Nat) : Sp := fun vs H Q _ => ∃ (v : V) (d : PyData) (B D W : Nat) (S : List Addr), vs = [v] ∧ InH S H ∧ DpU (msk S H) v d ∧ Pl B D W d ∧ d.depth ≤ m ∧ W ≤ 16000000 ∧ ∀ (v' : V) (d' : PyData) (H' : Hp), Same H H' → DpU (msk S H') v' d' → Pl B D W d' → Q v' H'
section
variable {P : Program} {w : World} {K : PySem.W.Frag} {mg : Str → Option Value} {base : Heap}
theorem spoils {f t a : Addr} {fd td ad : FuncData} (F : Fun K "_law_spoilt" "_law_spoilt" sSpoil f fd) (TK : Fk P w K mg base 1 "_law_take" t td ["_law_bag_here", "_law_many"] spTake) (AY : Fk P w K mg base 4 "_law_any" a ad ["_law_bag_here", "_law_deep_here"] (spAnyD 2)) (mF : mg "_law_spoilt" = some (.ref f)) (bF : Binds K fd ["_law_bag_here", "_law_thing"] []) (T : Bi mg) (mt : mg "tuple" = none) (mtl : mg "list" = none) (mtb : mg "bool" = none) : ∀ m : Nat, FnOk P w K mg base CX0 (m + 5) f fd ["_law_bag_here", "_law_thing"] (spSpoil m)
  | 0 => ok_spoil F TK AY (fun h => absurd h (by decide)) mF bF T mt mtl mtb
  | m + 1 => ok_spoil F TK AY (fun _ => spoils F TK AY mF bF T mt mtl mtb m) mF bF T mt mtl mtb
theorem ok_twin {m : Nat} {f a : Addr} {fd ad : FuncData} (F : Fun K "_law_twin" "_law_twin" sTwin f fd) (LW : Fk P w K mg base 1 "_law_whole" a ad ["_law_thing"] spWhD) (SI : 1 ≤ m → FnOk P w K mg base CX0 (m + 1) f fd ["_law_thing"] (spTwin (m - 1))) (mF : mg "_law_twin" = some (.ref f)) (bF : Binds K fd ["_law_thing"] []) (T : Bi mg) (mt : mg "tuple" = none) : FnOk P w K mg base CX0 (m + 2) f fd ["_law_thing"] (spTwin m) := by
  refine F.ok scTwin (fun vs H Q E h => ?_) (fun cdv A outer s H vs Q E hr h => ?_)
  · obtain ⟨v, d, B, W, D, S, rfl, _⟩ := h
    rfl
  obtain ⟨v, d, B, D, W, S, rfl, hS, hd, hp, hm, hW, q⟩ := h
  have BG : ∃ sp, FnOk P w K mg base CX0 (m + 1) f fd ["_law_thing"] sp ∧ (1 ≤ m → sp = spTwin (m - 1)) := by
    by_cases h1 : 1 ≤ m
    · exact ⟨_, SI h1, fun _ => rfl⟩
    · refine ⟨fun _ _ _ _ => False, ⟨fun _ _ _ _ h => h.elim, fun _ _ _ _ _ _ _ _ _ _ _ _ _ h => h.elim⟩, fun z => absurd z h1⟩
  obtain ⟨spB, GB, eB⟩ := BG
  have TW : Fk P w K mg base (m + 1) "_law_twin" f fd ["_law_thing"] spB := ⟨GB, mF, F.kp, bF⟩
  refine ⟨_, (pss_cons (ps_if (pt_val (pe_callB call_isi (by rfl) T.isinstance (by decide +kernel) (pa_cons (pv 0) (pa_cons (pe_bltn (v := .ty "tuple") (by rfl) mt (by decide +kernel) rfl) pa_nil))))
      (pss_one (ps_ret (pe_callTy call_tuple_of (by rfl) mt (by decide +kernel) (pa_cons (pe_lc (own := [("_law_one", 1)]) (g := gName 1) (tt := tYes) (by rfl) scTwin.nd (pi_tup (pv 0)) (blkOk_by (own := [("_law_one", 1)]) (N := ["_law_thing", "_law_one"]) (sc := defScope sTwin) (by decide +kernel)) (fun _ _ _ _ _ => pg_name (i := 1) scTwin.nd rfl (Or.inl rfl)) (fun _ _ _ _ _ => pts_nil) (fun _ _ _ _ _ => (pe_call TW.G hr (by rfl) TW.m TW.k TW.b .nil pass0 (pa_cons (pv 1) pa_nil)))) pa_nil))))
      pss_nil)
    (pss_one (ps_ret (pe_ifExp (PW.pt (pw_and (pt_val (pe_call LW.G (hr.mono (by omega)) (by rfl) LW.m LW.k LW.b .nil pass0 (pa_cons (pv 0) pa_nil))) (pw_and1 (pt_cmpR op_in_seq (pv 0) (pe_lst (pa_cons pe_int (pa_cons pe_int pa_nil))) rfl)))) (pe_cmpR op_eq (pv 0) pe_int (nomark _)) (pv 0))))), ?_⟩
  have hs : sizeLine = 16777216 := by decide
  have hd' := hd.same (msk_same S H)
  have same : Q v H := q v d H (Same.refl H) hd hp
  cases hd with
  | @tup p xs ds hpm t =>
    obtain ⟨D1, W3, xs', hx', hP⟩ := Ps.of (.tup hpm t) hp
    rw [hpm] at hx'
    cases hx'
    have hpH := msk_same S H _ _ hpm
    have hl := t.len
    have hlen : ds.length ≤ 8000000 := by
      have := wts_len ds
      have := hP.w
      omega
    have hmd : PySem.PyData.depthAll ds + 1 ≤ m := hm
    obtain rfl := eB (by omega)
    refine ⟨_, rfl, _, _, _, _, true, rfl, .ty "tuple", .base (.tup hpH), kit_ty (by decide +kernel), _, rfl, ?_⟩
    refine iteT ?_
    refine ⟨_, rfl, p, rfl, ⟨_, SqT.of hpH⟩, ?_⟩
    intro C hC
    have nCS := hS.new hC
    refine lc_tup (K := K) (a := p) (xs := xs) (fun j H' => ∃ (ws : List V) (es : List PyData), H' C = some (.lst ws) ∧ DpsU (msk (C :: S) H') ws es ∧ es.length = j ∧ (∀ e ∈ es, asc B e = true) ∧ (∀ e ∈ es, e.depth ≤ D - 1) ∧ wts es ≤ wts (ds.take j) ∧ Same H H') ⟨[], [], upd_same, .nil, rfl, (fun e h => by cases h), (fun e h => by cases h), Nat.le_refl _, same_new hC _⟩ (fun j H' _ h => ?_) ?_ ?_
    · obtain ⟨ws, es, _, _, _, _, _, _, s'⟩ := h
      exact SqT.of (s' _ _ hpH)
    · rintro j x H1 hx ⟨ws, es, hC1, hE, lj, ha, hdp, hw, s1⟩
      obtain ⟨e, ee, he⟩ := t.get hx
      have em := List.mem_of_getElem? ee
      have hj : j < ds.length := (List.getElem?_eq_some_iff.mp ee).1
      refine ⟨rfl, ?_⟩
      have hS1 : InH (C :: S) H1 := fun a h => by
        rcases List.mem_cons.mp h with rfl | h
        · rw [hC1]; exact fun z => nomatch z
        · exact hS.same s1 a h
      have we := wt_mem em
      have hw0 := hP.w
      refine ⟨_, rfl, x, e, B, D - 1, wt e, C :: S, rfl, hS1, he.same (msk_more hC s1), ⟨hP.a e em, hP.dep e em, Nat.le_refl _⟩, dep_mem (by omega) em, by omega, fun v' e' H2 s2 hv2 hp2 => ?_⟩
      have hC2 := s2 _ _ hC1
      refine ⟨ws, hC2, by rw [hE.len]; omega, ws ++ [v'], es ++ [e'], upd_same, ?_, by rw [List.length_append, lj]; rfl, ?_, ?_, ?_, ?_⟩
      · exact ((hE.same (msk_keep s2)).same (msk_upd (List.mem_cons_self ..))).app (.cons (hv2.same (msk_upd (List.mem_cons_self ..))) .nil)
      · intro g hg
        rcases List.mem_append.mp hg with h | h
        · exact ha g h
        · rw [List.mem_singleton.mp h]; exact hp2.a
      · intro g hg
        rcases List.mem_append.mp hg with h | h
        · exact hdp g h
        · rw [List.mem_singleton.mp h]; exact hp2.dep
      · rw [List.take_add_one, ee, wts_app, wts_app]
        have : wts ([e'] : List PyData) = wt e' + 2 + 0 := rfl
        have : wts ((some e).toList : List PyData) = wt e + 2 + 0 := rfl
        have := hp2.w
        omega
      · intro a o z
        rw [upd_ne (ne_of_none z hC)]
        exact s2 _ _ (s1 _ _ z)
    · rintro H1 ⟨ws, es, hC1, hE, lj, ha, hdp, hw, s1⟩
      rw [hl, List.take_length] at hw
      have hw0 := hP.w
      refine ⟨C, _, rfl, .inl ⟨SqL.of hC1, fun pt npt => ?_⟩⟩
      have st := same_new npt (.tup ws)
      have nps : pt ∉ S := (hS.same s1).new npt
      have PP : Ps (msk S (upd H1 pt (.tup ws))) B (D - 1) (W - 3) ws es := ⟨(hE.same msk_less).same (msk_keep st), ha, hdp, by omega⟩
      have P2 := PP.tup (msk_at nps upd_same)
      exact q _ _ _ (s1.trans st) P2.1 (P2.2.up (Nat.le_refl _) (by omega) (by omega))
  | int i =>
    refine ⟨_, rfl, _, _, _, _, false, rfl, .ty "tuple", .base (.int i), kit_ty (by decide +kernel), _, rfl, ?_⟩
    refine iteF ?_
    refine ⟨_, rfl, _, _, rfl, .int i, _, rfl, ?_⟩
    refine iteT ?_
    refine ⟨_, rfl, (by show 2 ≤ sizeLine; decide), fun l nl => ?_⟩
    have s1 := same_new nl (.lst [V.int 0, .int 1])
    have e1 := upd_same (H := H) (a := l) (o := .lst [V.int 0, .int 1])
    generalize upd H l (.lst [V.int 0, .int 1]) = H1 at s1 e1 ⊢
    refine ⟨l, _, rfl, .inl (SqL.of e1), rfl, rfl, _, rfl, ?_⟩
    have W5 : 101 ≤ W := hp.w
    refine ite2 (fun c => ?_) (fun c => ⟨_, rfl, q _ _ H1 s1 (.int i) hp⟩)
    refine ⟨_, rfl, rfl, ?_⟩
    exact q _ _ H1 s1 (.bl _) ⟨rfl, Nat.zero_le _, by show 5 ≤ W; omega⟩
  | bl c => exact ⟨_, rfl, _, _, _, _, false, rfl, .ty "tuple", .base (.bl c), kit_ty (by decide +kernel), _, rfl, iteF ⟨_, rfl, _, _, rfl, .bl c, _, rfl, iteF ⟨_, rfl, same⟩⟩⟩
  | non => exact ⟨_, rfl, _, _, _, _, false, rfl, .ty "tuple", .base .non, kit_ty (by decide +kernel), _, rfl, iteF ⟨_, rfl, _, _, rfl, .non, _, rfl, iteF ⟨_, rfl, same⟩⟩⟩
  | str x => exact ⟨_, rfl, _, _, _, _, false, rfl, .ty "tuple", .base (.str x), kit_ty (by decide +kernel), _, rfl, iteF ⟨_, rfl, _, _, rfl, .str x, _, rfl, iteF ⟨_, rfl, same⟩⟩⟩
  | lst h tt => exact ⟨_, rfl, _, _, _, _, false, rfl, .ty "tuple", .base (.lst (msk_same S H _ _ h)), kit_ty (by decide +kernel), _, rfl, iteF ⟨_, rfl, _, _, rfl, hd', _, rfl, iteF ⟨_, rfl, same⟩⟩⟩
theorem twins {f a : Addr} {fd ad : FuncData} (F : Fun K "_law_twin" "_law_twin" sTwin f fd) (LW : Fk P w K mg base 1 "_law_whole" a ad ["_law_thing"] spWhD) (mF : mg "_law_twin" = some (.ref f)) (bF : Binds K fd ["_law_thing"] []) (T : Bi mg) (mt : mg "tuple" = none) : ∀ m : Nat, FnOk P w K mg base CX0 (m + 2) f fd ["_law_thing"] (spTwin m)
  | 0 => ok_twin F LW (fun h => absurd h (by decide)) mF bF T mt
  | m + 1 => ok_twin F LW (fun _ => twins F LW mF bF T mt m) mF bF T mt
end
end SH

set_option Elab.async false
set_option linter.all false
set_option maxRecDepth 100000
set_option maxHeartbeats 2000000
/-! repr(x) by an own __repr__; bool(x) by an own __len__. -/
namespace SH
open PySem PySem.Spec PyProof.Rows L2
section
open PySem.W
variable {prog : Program} {w : World} {A : Around} {E : Value → Shared → Prop} {s : Shared} {K : Frag} {C x f : Addr} {ox : Obj} {od : Option Obj}
/-- len's own run -/
theorem run_len {Q : Value → Shared → Prop} (X : K.In s.heap) (I : InstAt s.heap x ox C od) (hs : findIn K (.ref C) "__len__" = some (some (.ref f))) (hf : isFn K (.ref f) = true)
    (h : wpAny (model prog w) A.in1 (call (.ref f) [.ref x]) (fun r s' => ∃ (n : Nat) (u : Tok), r = .int (n : Int) u ∧ n < 1000000 ∧ ∀ v tk, Q (.int (n : Int) v) { s' with toks := tk }) E s) : wpAny (model prog w) A (runValue (.builtin "len" ⟨[.ref x], []⟩)) Q E s := by
  refine wpAny_runValue (codeAny_builtin entry_len ?_)
  rw [Around.under_plainId plain_len _]
  unfold Builtin.«len»
  refine wpAny_bind (m := oneArg "len" _) (wpAny_pure ?_)
  refine wpAny_bind (m := callSpecial? (.ref x) (Str.ofString "__len__")) (special_fn X I hs (beq_iff_eq.mp hf) (wpAny_mono h (fun r s' hr => ?_) fun _ _ y => y))
  obtain ⟨n, u, rfl, lt, q⟩ := hr
  refine wpAny_bind (wpAny_holding (wpAny_pure ?_))
  refine wpAny_bind (wpAny_letGo ?_)
  show wpAny _ _ (if (n : Int) < 0 then _ else _) _ _ _
  rw [if_neg (by omega)]
  show wpAny _ _ (if (n : Int) ≥ 2 ^ 63 then _ else _) _ _ _
  rw [if_neg (by omega)]
  exact wpAny_bind (wpAny_mkInt (wpAny_pure (q _ _)))
theorem truth_len {Q : Bool → Shared → Prop} (X : K.In s.heap) (I : InstAt s.heap x ox C od) (hb : findIn K (.ref C) "__bool__" = some none) (hs : findIn K (.ref C) "__len__" = some (some (.ref f))) (hf : isFn K (.ref f) = true)
    (h : wpAny (model prog w) A.in1 (call (.ref f) [.ref x]) (fun r s' => ∃ (n : Nat) (u : Tok), r = .int (n : Int) u ∧ n < 1000000 ∧ ∀ tk, Q ((n : Int) != 0) { s' with toks := tk }) E s) : wpAny (model prog w) A (truthy (.ref x)) Q E s := by
  unfold truthy
  refine wpAny_bind (m := callSpecial? (.ref x) (Str.ofString "__bool__")) (wpAny_bind (wpAny_bind (I.type.here ((looks_findIn X hb).here (wpAny_pure ?_)))))
  refine wpAny_bind (wpAny_bind (I.type.here ((looks_findIn X hs).here ?_)))
  show wpAny _ _ (if (some (Value.ref f)).isNone = true then _ else _) _ _ _
  rw [if_neg (by simp)]
  refine wpAny_bind (run_len X I hs hf (wpAny_mono h (fun r s' hr => ?_) fun _ _ y => y))
  obtain ⟨n, u, rfl, lt, q⟩ := hr
  exact ⟨n, u, rfl, lt, fun v tk => wpAny_pure (q tk)⟩
theorem bool_len {Q : Value → Shared → Prop} (X : K.In s.heap) (I : InstAt s.heap x ox C od) (hb : findIn K (.ref C) "__bool__" = some none) (hs : findIn K (.ref C) "__len__" = some (some (.ref f))) (hf : isFn K (.ref f) = true)
    (h : wpAny (model prog w) A.in1.in1.in1 (call (.ref f) [.ref x]) (fun r s' => ∃ (n : Nat) (u : Tok), r = .int (n : Int) u ∧ n < 1000000 ∧ ∀ tk, Q (.bool ((n : Int) != 0)) { s' with toks := tk }) E s) : wpAny (model prog w) A (call (.type "bool") [.ref x]) Q E s := by
  refine callType_codes (T := "bool") (Bi := Builtin.«object.__init__») (Q₁ := fun r s₁ => ∃ y, r = .bool y ∧ Q r s₁) PySem.F.called_bool (PySem.F.typeCall_bool_1 _) PySem.F.entry_object_init ?_ ?_
  · refine codeAny_of_tree ?_
    show wpAny _ A.in1.in1 (do checkBuiltinCall "bool.__new__" ⟨[.type "bool", .ref x], []⟩; again (.builtin "bool.__new__" ⟨[.type "bool", .ref x], []⟩)) _ _ s
    refine wpAny_bind (wpAny_of_eq (PySem.F.newCall_bool_1 _) (wpAny_pure ⟨plainId_quiet (by decide +kernel) _, codeAny_builtin PySem.F.entry_bool_new ?_⟩))
    rw [Around.under_plainId (by decide +kernel) _]
    have f1 := PySem.F.conv_sub_bool
    have key : ∀ {R : Bool → Shared → Prop}, (∀ b s', Q (.bool b) s' → R b s') → wpAny (model prog w) A.in1.in1 (truthy (.ref x)) R E s := fun {R} k => truth_len X I hb hs hf (wpAny_mono h (fun r s' ⟨n, u, e, lt, q⟩ => ⟨n, u, e, lt, fun tk => k _ _ (q tk)⟩) fun _ _ y => y)
    obtain ⟨hp, g, d, tk, os⟩ := s
    unfold Builtin.«bool.__new__»
    repeat (any_goals (first | assumption | (with_reducible refine key fun b s' q => ?_) | wp_step))
    all_goals first | exact ⟨_, rfl, by assumption⟩ | skip
  · rintro o s₁ ⟨y, rfl, q⟩
    exact ⟨PySem.typeIs_bool _ _, PySem.F.args_object_init_2 _ _, object_init_meets PySem.F.called_bool.init.lookup PySem.F.called_bool.made (by decide) prog w A.in1 _ s₁ ⟨PySem.typeIs_bool _ _, rfl, q⟩⟩
end
section
variable {X : Cx}
/-- repr(x) by an own __repr__ -/
def rReprOwn (C : Addr) (sp : Sp) : List V → Hp → VK → Prop := fun xs H Q => ∃ (a dx : Addr) (fs : List (PySem.Str × V)), xs = [V.ref a] ∧ H a = some (.ins C dx fs) ∧ sp [.ref a] H (fun v H' => ∃ z, v = .str z ∧ Q v H') E0
theorem call_reprOwn {C g : Addr} {gd : FuncData} {n : Nat} {sp : Sp} (hs : PySem.W.findIn X.K (.ref C) "__repr__" = some (some (.ref g))) (hf : PySem.W.isFn X.K (.ref g) = true) (F : FnOk X.prog X.w X.K X.mg X.base CX0 n g gd ["self"] sp) (hb : Binds X.K gd ["self"] []) (hr : Room (n + 1) X.A) : CallR X (.builtin "repr") (rReprOwn C sp) := by
  intro pins s σ H xs us Q I r h
  obtain ⟨a, dx, fs, rfl, ha, q⟩ := h
  obtain ⟨u, rfl, ru⟩ := vals1 r
  cases ru
  obtain ⟨mA, om, _⟩ := ins_get I.hok ha
  obtain ⟨od, J, _⟩ := om.look
  obtain ⟨m, hF⟩ := I.fr
  have rm := hr.in1
  refine PySem.W.repr_K (by have := rm.un; omega) hF I.ok.mod.kin J hs hf (wpAny_call (codeAny_mono (F.run X.A.in1 X.stack s H ⟨[.ref a], []⟩ [.ref a] [.ref a] _ E0 rm I.env0.in1 (hb s [.ref a] I.kIn rfl) (.cons rfl .nil) q) fun r z hq => ?_))
  cases r with
  | error e => exact hq.elim
  | ok fl =>
    cases fl with
    | ret v =>
      obtain ⟨y, H', J2, ry, t, ey, fin⟩ := I.after hq
      subst ey
      obtain ⟨tk, rfl⟩ := (show ∃ tk, v = Value.str t tk from ry)
      exact ⟨.str t, H', J2, ⟨_, rfl⟩, fin⟩
    | _ => exact False.elim hq
/-- bool(x) by an own __len__ -/
def rBoolLen (C : Addr) (sp : Sp) : List V → Hp → VK → Prop := fun xs H Q => ∃ (a dx : Addr) (fs : List (PySem.Str × V)), xs = [V.ref a] ∧ H a = some (.ins C dx fs) ∧ sp [.ref a] H (fun v H' => ∃ n : Nat, v = .int (n : Int) ∧ n < 1000000 ∧ Q (.bl ((n : Int) != 0)) H') E0
theorem call_boolLen {C g : Addr} {gd : FuncData} {n : Nat} {sp : Sp} (hb0 : PySem.W.findIn X.K (.ref C) "__bool__" = some none) (hs : PySem.W.findIn X.K (.ref C) "__len__" = some (some (.ref g))) (hf : PySem.W.isFn X.K (.ref g) = true) (F : FnOk X.prog X.w X.K X.mg X.base CX0 n g gd ["self"] sp) (hb : Binds X.K gd ["self"] []) (hr : Room (n + 3) X.A) : CallR X (.type "bool") (rBoolLen C sp) := by
  intro pins s σ H xs us Q I r h
  obtain ⟨a, dx, fs, rfl, ha, q⟩ := h
  obtain ⟨u, rfl, ru⟩ := vals1 r
  cases ru
  obtain ⟨mA, om, _⟩ := ins_get I.hok ha
  obtain ⟨od, J, _⟩ := om.look
  have rm : Room n X.A.in1.in1.in1 := ((show Room (n + 2) X.A.in1 from Room.in1 hr).in1).in1
  refine bool_len I.kIn J hb0 hs hf (wpAny_call (codeAny_mono (F.run X.A.in1.in1.in1 X.stack s H ⟨[.ref a], []⟩ [.ref a] [.ref a] _ E0 rm I.env0.in1.in1.in1 (hb s [.ref a] I.kIn rfl) (.cons rfl .nil) q) fun r z hq => ?_))
  cases r with
  | error e => exact hq.elim
  | ok fl =>
    cases fl with
    | ret v =>
      obtain ⟨y, H', J2, ry, t, ey, lt, fin⟩ := I.after hq
      subst ey
      obtain ⟨tk, rfl⟩ := (show ∃ tk, v = Value.int t tk from ry)
      exact ⟨t, tk, rfl, lt, fun tk' => ⟨.bl ((t : Int) != 0), H', J2.tok tk', rfl, fin⟩⟩
    | _ => exact False.elim hq
end
end SH

set_option Elab.async false
set_option linter.all false
set_option maxRecDepth 100000
/-! a try with several clauses, all of which name what they catch by one name. -/
namespace SH
open PySem PySem.Spec PyProof.Rows L2
/-- behind a clause its name stands for nothing -/
def goneE (i : Nat) (D : Ends) : Ends := { nx := fun σ' H' => D.nx (σ'.set i none) H', rt := D.rt, bk := fun σ' H' => D.bk (σ'.set i none) H', ct := fun σ' H' => D.ct (σ'.set i none) H' }
abbrev Suite := Addr → Value → Option Addr → TS
/-- what the clauses, one behind the other, wish of what is raised -/
def wCl (K : PySem.W.Frag) (i : Nat) (out : WX) (D : Ends) : List (Value × Suite) → WX
  | [] => out
  | q :: rest => fun cls d σ H => ∃ yes, PySem.W.exmOne K cls q.1 = some yes ∧ (yes = true → ∀ a, H a = none → q.2 a cls d (goneE i D) (σ.set i (some (.ref a))) H) ∧ (yes = false → wCl K i out D rest cls d σ H)
inductive Clauses (X : Cx) (n : Str) : List ExceptHandler → List (Value × Suite) → Prop
  | last : Clauses X n [] []
  | more {x : Str} {c : Value} {su : Suite} {b0 : Stmt} {bs : List Stmt} {p1 p2 : Pos} {hs : List ExceptHandler} {qs : List (Value × Suite)} : Names X x c →
      (∀ (a : Addr) (oe : Obj) (cls : Value) (d : Option Addr) (pn : List (Addr × Obj)), Zc cls d oe → (∃ vs, oe.data = .fields vs) → PSs (X.suite a ((a, oe) :: pn)) (b0 :: bs) (su a cls d)) →
      Clauses X n hs qs → Clauses X n (.ExceptHandler (some (.Name x p1)) (some n) (b0 :: bs) p2 :: hs) ((c, su) :: qs)
section
variable {X : Cx} {n : Str} {i : Nat} {body : List Stmt} {h0 : ExceptHandler} {hs : List ExceptHandler} {qs : List (Value × Suite)} {pos : Pos} {tb : WX → TS} {out : WX}
/-- what is wished where an error is caught in flight: it is handed to the clauses -/
abbrev Fallen (X : Cx) (pins : List (Addr × Obj)) (D : Ends) (hds : List ExceptHandler) : Value → Shared → Prop := fun e s1 =>
  wpAny (model X.prog X.w) X.A (noteFrame e X.env) (fun _ s2 => wpAny (model X.prog X.w) X.A (setFlight e none)
    (fun _ s3 => wpAny (model X.prog X.w) X.A (handleBy e X.env hds) (SP X pins D) X.xe s3) X.xe s2) X.xe s1
theorem ps_tryCl (st : X.stack = X.env :: X.outer) (fr : X.env.frame = some X.env.locals) (nd : X.N.Nodup) (hi : X.N[i]? = some n) (hl : X.env.kindOf n = some .local) (tk : Takes X out)
    (hb : ∀ (W : WX) (pn : List (Addr × Obj)) (xe : Value → Shared → Prop), Takes (X.tr pn xe) W → PassesOwn (model X.prog X.w) X.A X.env xe → PSs (X.tr pn xe) body (tb W))
    (hc : Clauses X n (h0 :: hs) qs) : PS X (.Try body (h0 :: hs) [] [] pos) (fun D σ H => tb (wCl X.K i out D qs) D σ H) := by
  refine ⟨fun pins s σ H D I want => ?_⟩
  have ok := I.ok
  have frm : X.A.frames = some (X.env :: X.outer) := ok.frames.trans (congrArg some st)
  refine wpAny_Try_except ?_
  have run := hb (wCl X.K i out D qs) (X.pn ++ pins) (Fallen X pins D (h0 :: hs)) (fun u s' caught => ?fall) PassesOwn.looking
  case fall =>
    obtain ⟨a, B, sI, pins', σ1, H1, cls, d, rfl, JT, nb, up, sky, na, os, ag, wish⟩ := caught
    have J : Inv X pins σ1 H1 sI := JT.ofTry ok
    have sky1 : Sky B (X.env :: X.outer) a (Zc cls d) X.env.locals s'.heap := st ▸ sky
    refine Sky.land Zc.steady frm fr sky1 fun hp fl upf => ?_
    have JL : Inv X pins σ1 H1 { s' with heap := hp } := J.landed nb fl.1 (up.trans upf) os ag
    obtain ⟨oe, vs, he, hz, hd⟩ := fl.there
    have notIn : a ∉ frs (X.env :: X.outer) := fun hm => by
      obtain ⟨_, o2, e2, no⟩ := fl.2.2.1.mem hm
      rw [he] at e2
      cases e2
      exact no _ hd
    have nLoc : a ≠ X.env.locals := fun z => notIn (List.mem_filterMap.mpr ⟨X.env, List.mem_cons_self, by rw [fr, z]⟩)
    have nFs : a ∉ X.fs := fun hm => by
      obtain ⟨e1, m1, q1⟩ := List.mem_filterMap.mp hm
      exact notIn (List.mem_filterMap.mpr ⟨e1, List.mem_cons_of_mem _ m1, q1⟩)
    have SL := JL.suite he hd na nLoc nFs
    have kind : PySem.W.Looks (model X.prog X.w) hp (typeOf (.ref a)) cls := fun _ _ _ _ k q => wpAny_typeOf_ref (k _ _ he) (by rw [hz.1]; exact q)
    have each : ∀ {hds : List ExceptHandler} {rest : List (Value × Suite)}, Clauses X n hds rest → wCl X.K i out D rest cls d σ1 H1 → wpAny (model X.prog X.w) X.A (handleBy (.ref a) X.env hds) (SP X pins D) X.xe { s' with heap := hp } := by
      intro hds rest cl
      induction cl with
      | last =>
        intro wish
        refine wpAny_handleBy_nil ?_
        obtain ⟨_, _, _, oe5, vs5, T5, oT5, ts5, he5, hz5, hd5, h5, hr5⟩ := id fl
        unfold PySem.passOn
        refine wpAny_bind (wpAny_field he5 hd5 h5 ?_)
        rw [if_neg (by simp : ¬ ((Value.ref T5 == Value.none) = true))]
        have away : wpAny (model X.prog X.w) X.A (setFlight (.ref a) X.env.frame) (fun _ s4 => wpAny (model X.prog X.w) X.A (throw (.ref a) : Sem Flow) (SP X pins D) X.xe s4) X.xe { s' with heap := hp } := by
          rw [fr]
          refine HandSPX.setFlight_upZ fl fun h6 sk6 up6 => wpAny_throw (tk _ _ ⟨a, B, sI, pins, σ1, H1, cls, d, rfl, J, nb, (up.trans upf).trans up6, .inr (.inr (st ▸ sk6)), na, os, ag, wish⟩)
        first | exact wpAny_bind (wpAny_pure (wpAny_bind away)) | exact wpAny_bind away
      | @more x c su b0 bs p1 p2 hs2 qs2 nm suite _ ih =>
        intro wish
        obtain ⟨yes, hy, hyes, hno⟩ := wish
        refine wpAny_handleBy_cons (codeAny_handlers_test ?_) (by intro q; cases q)
        have named : ∀ {Q : Value → Shared → Prop} {E : Value → Shared → Prop}, Q c { s' with heap := hp } → wpAny (model X.prog X.w) (X.A.mark (some (.ref a))) (eval (.Name x p1) X.env) Q E { s' with heap := hp } := fun {Q E} q => by
          obtain ⟨g1, g2, g3 | ⟨g3, g4, g5⟩⟩ := nm
          · exact ld_glob (X := X.suite a ((a, oe) :: (X.pn ++ pins))) SL g1 g3 q g2
          · exact ld_blt (X := X.suite a ((a, oe) :: (X.pn ++ pins))) SL g1 g3 g4 q g5 g2
        refine named ((PySem.W.exm_one (M := model X.prog X.w) (JL.kIn) kind hy).here ?_)
        cases yes with
        | false => exact ih (hno rfl)
        | true =>
          refine codeAny_handlers_suite_as (HandSPX.lands_againZ fl fun h8 fl8 up8 => ?_)
          have J8 : Inv X pins σ1 H1 { s' with heap := h8 } := J.landed nb fl8.1 ((up.trans upf).trans up8) os ag
          obtain ⟨oe8, vs8, he8, hz8, hd8⟩ := fl8.there
          refine store_ok (X := X.suite a ((a, oe8) :: (X.pn ++ pins))) (v := .ref a) (J8.suite he8 hd8 na nLoc nFs) nd hi (.inl hl) rfl (fun s9 S9 => ?_) (.inr hl)
          refine wpAny_mono ((suite a oe8 cls d (X.pn ++ pins) hz8 ⟨_, hd8⟩).run [] s9 _ H1 _ S9 (hyes rfl a na)) (fun f sE hE => ?_) (fun _ _ z => z.elim)
          have off : ∀ {σ6 : L2.St} {H6 : Hp} {Q : Shared → Prop}, Inv (X.suite a ((a, oe8) :: (X.pn ++ pins))) [] σ6 H6 sE → (∀ s7, Inv X pins (σ6.set i none) H6 s7 → Q s7) →
              wpAny (model X.prog X.w) X.A (do bindName X.env n .none; unbindBehindTheSuite X.env n p2) (fun _ s7 => Q s7) X.xe sE := fun {σ6 H6 Q} S6 k => gone_ok (S6.unsuite ok) nd hi hl k
          cases f with
          | next => obtain ⟨σ6, H6, S6, q6⟩ := hE; exact off S6 fun s7 J7 => ⟨_, _, J7, q6⟩
          | brk => obtain ⟨σ6, H6, S6, q6⟩ := hE; exact off S6 fun s7 J7 => ⟨_, _, J7, q6⟩
          | cont => obtain ⟨σ6, H6, S6, q6⟩ := hE; exact off S6 fun s7 J7 => ⟨_, _, J7, q6⟩
          | ret u => obtain ⟨v6, σ6, H6, S6, r6, q6⟩ := hE; exact off S6 fun s7 J7 => ⟨_, _, _, J7, r6, q6⟩
    exact each hc wish
  refine wpAny_mono (run.run [] s σ H D (I.toTry _) want) (fun f sE hE => ?_) (fun _ _ z => z)
  cases f with
  | next => obtain ⟨σ2, H2, J2, q2⟩ := hE; exact wpAny_execs_nil ⟨σ2, H2, J2.ofTry ok, q2⟩
  | brk => obtain ⟨σ2, H2, J2, q2⟩ := hE; exact ⟨σ2, H2, J2.ofTry ok, q2⟩
  | cont => obtain ⟨σ2, H2, J2, q2⟩ := hE; exact ⟨σ2, H2, J2.ofTry ok, q2⟩
  | ret u => obtain ⟨v2, σ2, H2, J2, r2, q2⟩ := hE; exact ⟨v2, σ2, H2, J2.ofTry ok, r2, q2⟩
end
/-! a call with keywords that may raise, where what is wished hangs on the names. -/
def tKwX (n m : Nat) (sp : Sp) (gV : List V → List V → List V) (E : L2.St → XK) (t tk : TA) : TE := fun σ H Q => t σ H fun vs H1 => tk σ H1 fun zs H2 => vs.length = n ∧ zs.length = m ∧ sp (gV vs zs) H2 Q (E σ)
section
variable {X : Cx} {CX : CXT} {k n : Nat} {f : Addr} {fd : FuncData} {ps ks : List PySem.Str} {sp : Sp} {E : L2.St → XK} {x : PySem.Str} {p pos : Pos} {e : Expr} {es : List Expr} {kws : List Keyword} {t tk : TA} {g : List Value → List Value → List Value} {gV : List V → List V → List V}
theorem pe_kwX (F : FnOk X.prog X.w X.K X.mg X.base CX k f fd ps sp) (hr : Room k X.A) (hg : Gl X x) (hm : X.mg x = some (.ref f)) (hk : PySem.W.keepIn X.K (.ref f) = true) (hb : KBn X.K fd ps n ks g gV) (hx : ∀ σ, PassesAt CX X σ (E σ))
    (ha : PA X (e :: es) t) (hkw : PK X kws tk) (a1 : (backToKw pos (keywordEach kws X.env)).all (·.1.isSome) = true := by rfl) (a2 : (backToKw pos (keywordEach kws X.env)).filterMap (·.1) = ks := by rfl)
    (a3 : (x == ("__debug__" : PySem.Str)) = false := by decide) (a4 : starEach (e :: es) X.env = (false, eval e X.env) :: starEach es X.env := by rfl)
    (a5 : ((backTo pos (starEach (e :: es) X.env)).any (·.1) || (backToKw pos (keywordEach kws X.env)).any (·.1.isNone)) = false := by rfl) : PE X (.Call (.Name x p) (e :: es) kws pos) (tKwX n ks.length sp gV E t tk) := by
  refine ⟨fun pins s σ H Q I want => wpAny_Call_Name_kw (ld_glob I hg hm ?_ a3)⟩
  refine PySem.W.callWith_KW (h₀ := X.base) I.ok.mod.kin hk a1 (thn (ha.run pos pins s σ H _ I want) fun us s1 ⟨vs, H1, I1, r1, w1⟩ => ?_) a5 a4
  refine thn (hkw.run pos pins s1 σ H1 _ I1 w1) fun ws s2 ⟨zs, H2, I2, r2, l1, l2, w2⟩ => ⟨I2.kIn, ?_⟩
  rw [a2]
  have bd := hb.to s2 us ws I2.kIn (r1.length.symm.trans l1) (r2.length.symm.trans l2)
  refine wpAny_call (codeAny_mono (F.run X.A X.stack s2 H2 ⟨us, ks.zip ws⟩ (g us ws) (gV vs zs) Q (E σ) hr I2.env0 bd (hb.rel r1 r2) w2) fun res s' got => ?_)
  cases res with
  | error er => exact hx σ pins H2 s2 er s' I2 got
  | ok fl =>
    cases fl with
    | ret u => exact I2.after got
    | next => exact got.elim
    | brk => exact got.elim
    | cont => exact got.elim
end
end SH

set_option Elab.async false
set_option linter.all false
set_option maxRecDepth 100000
/-! a try with several clauses, of errors whose context is None; isinstance of an error with a tuple of classes; repr of any plain data. -/
namespace SH
open PySem PySem.Spec PyProof.Rows L2
inductive ClausesN (X : Cx) (n : Str) : List ExceptHandler → List (Value × Suite) → Prop
  | last : ClausesN X n [] []
  | more {x : Str} {c : Value} {su : Suite} {b0 : Stmt} {bs : List Stmt} {p1 p2 : Pos} {hs : List ExceptHandler} {qs : List (Value × Suite)} : Names X x c →
      (∀ (a : Addr) (oe : Obj) (cls : Value) (d : Option Addr) (pn : List (Addr × Obj)), L2N.Zn cls d oe → (∃ vs, oe.data = .fields vs) → PSs (X.suite a ((a, oe) :: pn)) (b0 :: bs) (su a cls d)) →
      ClausesN X n hs qs → ClausesN X n (.ExceptHandler (some (.Name x p1)) (some n) (b0 :: bs) p2 :: hs) ((c, su) :: qs)
section
variable {X : Cx} {n : Str} {i : Nat} {body : List Stmt} {h0 : ExceptHandler} {hs : List ExceptHandler} {qs : List (Value × Suite)} {pos : Pos} {tb : WX → TS} {out : WX}
theorem ps_tryClN (st : X.stack = X.env :: X.outer) (fr : X.env.frame = some X.env.locals) (nd : X.N.Nodup) (hi : X.N[i]? = some n) (hl : X.env.kindOf n = some .local) (tk : L2N.Takes X out)
    (hb : ∀ (W : WX) (pn : List (Addr × Obj)) (xe : Value → Shared → Prop), L2N.Takes (X.tr pn xe) W → PassesOwn (model X.prog X.w) X.A X.env xe → PSs (X.tr pn xe) body (tb W))
    (hc : ClausesN X n (h0 :: hs) qs) : PS X (.Try body (h0 :: hs) [] [] pos) (fun D σ H => tb (wCl X.K i out D qs) D σ H) := by
  refine ⟨fun pins s σ H D I want => ?_⟩
  have ok := I.ok
  have frm : X.A.frames = some (X.env :: X.outer) := ok.frames.trans (congrArg some st)
  refine wpAny_Try_except ?_
  have run := hb (wCl X.K i out D qs) (X.pn ++ pins) (Fallen X pins D (h0 :: hs)) (fun u s' caught => ?fall) PassesOwn.looking
  case fall =>
    obtain ⟨a, B, sI, pins', σ1, H1, cls, d, rfl, JT, nb, up, sky, na, os, ag, wish⟩ := caught
    have J : Inv X pins σ1 H1 sI := JT.ofTry ok
    have sky1 : Sky B (X.env :: X.outer) a (L2N.Zn cls d) X.env.locals s'.heap := st ▸ sky
    refine L2N.Sky.land L2N.Zn.steady frm fr sky1 fun hp fl upf => ?_
    have JL : Inv X pins σ1 H1 { s' with heap := hp } := J.landed nb fl.1 (up.trans upf) os ag
    obtain ⟨oe, vs, he, hz, hd⟩ := fl.there
    have notIn : a ∉ frs (X.env :: X.outer) := fun hm => by
      obtain ⟨_, o2, e2, no⟩ := fl.2.2.1.mem hm
      rw [he] at e2
      cases e2
      exact no _ hd
    have nLoc : a ≠ X.env.locals := fun z => notIn (List.mem_filterMap.mpr ⟨X.env, List.mem_cons_self, by rw [fr, z]⟩)
    have nFs : a ∉ X.fs := fun hm => by
      obtain ⟨e1, m1, q1⟩ := List.mem_filterMap.mp hm
      exact notIn (List.mem_filterMap.mpr ⟨e1, List.mem_cons_of_mem _ m1, q1⟩)
    have SL := JL.suite he hd na nLoc nFs
    have kind : PySem.W.Looks (model X.prog X.w) hp (typeOf (.ref a)) cls := fun _ _ _ _ k q => wpAny_typeOf_ref (k _ _ he) (by rw [hz.1]; exact q)
    have each : ∀ {hds : List ExceptHandler} {rest : List (Value × Suite)}, ClausesN X n hds rest → wCl X.K i out D rest cls d σ1 H1 → wpAny (model X.prog X.w) X.A (handleBy (.ref a) X.env hds) (SP X pins D) X.xe { s' with heap := hp } := by
      intro hds rest cl
      induction cl with
      | last =>
        intro wish
        refine wpAny_handleBy_nil ?_
        obtain ⟨_, _, _, oe5, vs5, T5, oT5, ts5, he5, hz5, hd5, h5, hr5⟩ := id fl
        unfold PySem.passOn
        refine wpAny_bind (wpAny_field he5 hd5 h5 ?_)
        rw [if_neg (by simp : ¬ ((Value.ref T5 == Value.none) = true))]
        have away : wpAny (model X.prog X.w) X.A (setFlight (.ref a) X.env.frame) (fun _ s4 => wpAny (model X.prog X.w) X.A (throw (.ref a) : Sem Flow) (SP X pins D) X.xe s4) X.xe { s' with heap := hp } := by
          rw [fr]
          refine HandSPX.setFlight_upZ fl fun h6 sk6 up6 => wpAny_throw (tk _ _ ⟨a, B, sI, pins, σ1, H1, cls, d, rfl, J, nb, (up.trans upf).trans up6, .inr (.inr (st ▸ sk6)), na, os, ag, wish⟩)
        first | exact wpAny_bind (wpAny_pure (wpAny_bind away)) | exact wpAny_bind away
      | @more x c su b0 bs p1 p2 hs2 qs2 nm suite _ ih =>
        intro wish
        obtain ⟨yes, hy, hyes, hno⟩ := wish
        refine wpAny_handleBy_cons (codeAny_handlers_test ?_) (by intro q; cases q)
        have named : ∀ {Q : Value → Shared → Prop} {E : Value → Shared → Prop}, Q c { s' with heap := hp } → wpAny (model X.prog X.w) (X.A.mark (some (.ref a))) (eval (.Name x p1) X.env) Q E { s' with heap := hp } := fun {Q E} q => by
          obtain ⟨g1, g2, g3 | ⟨g3, g4, g5⟩⟩ := nm
          · exact ld_glob (X := X.suite a ((a, oe) :: (X.pn ++ pins))) SL g1 g3 q g2
          · exact ld_blt (X := X.suite a ((a, oe) :: (X.pn ++ pins))) SL g1 g3 g4 q g5 g2
        refine named ((PySem.W.exm_one (M := model X.prog X.w) (JL.kIn) kind hy).here ?_)
        cases yes with
        | false => exact ih (hno rfl)
        | true =>
          refine codeAny_handlers_suite_as (HandSPX.lands_againZ fl fun h8 fl8 up8 => ?_)
          have J8 : Inv X pins σ1 H1 { s' with heap := h8 } := J.landed nb fl8.1 ((up.trans upf).trans up8) os ag
          obtain ⟨oe8, vs8, he8, hz8, hd8⟩ := fl8.there
          refine store_ok (X := X.suite a ((a, oe8) :: (X.pn ++ pins))) (v := .ref a) (J8.suite he8 hd8 na nLoc nFs) nd hi (.inl hl) rfl (fun s9 S9 => ?_) (.inr hl)
          refine wpAny_mono ((suite a oe8 cls d (X.pn ++ pins) hz8 ⟨_, hd8⟩).run [] s9 _ H1 _ S9 (hyes rfl a na)) (fun f sE hE => ?_) (fun _ _ z => z.elim)
          have off : ∀ {σ6 : L2.St} {H6 : Hp} {Q : Shared → Prop}, Inv (X.suite a ((a, oe8) :: (X.pn ++ pins))) [] σ6 H6 sE → (∀ s7, Inv X pins (σ6.set i none) H6 s7 → Q s7) →
              wpAny (model X.prog X.w) X.A (do bindName X.env n .none; unbindBehindTheSuite X.env n p2) (fun _ s7 => Q s7) X.xe sE := fun {σ6 H6 Q} S6 k => gone_ok (S6.unsuite ok) nd hi hl k
          cases f with
          | next => obtain ⟨σ6, H6, S6, q6⟩ := hE; exact off S6 fun s7 J7 => ⟨_, _, J7, q6⟩
          | brk => obtain ⟨σ6, H6, S6, q6⟩ := hE; exact off S6 fun s7 J7 => ⟨_, _, J7, q6⟩
          | cont => obtain ⟨σ6, H6, S6, q6⟩ := hE; exact off S6 fun s7 J7 => ⟨_, _, J7, q6⟩
          | ret u => obtain ⟨v6, σ6, H6, S6, r6, q6⟩ := hE; exact off S6 fun s7 J7 => ⟨_, _, _, J7, r6, q6⟩
    exact each hc wish
  refine wpAny_mono (run.run [] s σ H D (I.toTry _) want) (fun f sE hE => ?_) (fun _ _ z => z)
  cases f with
  | next => obtain ⟨σ2, H2, J2, q2⟩ := hE; exact wpAny_execs_nil ⟨σ2, H2, J2.ofTry ok, q2⟩
  | brk => obtain ⟨σ2, H2, J2, q2⟩ := hE; exact ⟨σ2, H2, J2.ofTry ok, q2⟩
  | cont => obtain ⟨σ2, H2, J2, q2⟩ := hE; exact ⟨σ2, H2, J2.ofTry ok, q2⟩
  | ret u => obtain ⟨v2, σ2, H2, J2, r2, q2⟩ := hE; exact ⟨v2, σ2, H2, J2.ofTry ok, r2, q2⟩
end
section
variable {X : Cx}
/-- isinstance(e, (c1, c2, ..)), e a pinned error of the class at D, its dict at dd -/
def rIsPT (K : PySem.W.Frag) (cls : Value) (d : Option Addr) (a : Addr) : List V → Hp → VK → Prop := fun xs H Q => ∃ (D dd tp : Addr) (cs : List V) (us : List Value) (b : Bool) (fs : List (PySem.Str × V)), cls = .ref D ∧ d = some dd ∧ ErC K D ∧ xs = [.ref a, .ref tp] ∧ H tp = some (.tup cs) ∧ Paired ClsV cs us ∧ H dd = some (.xd fs) ∧ PySem.W.kitAny K (.ref D) us = some b ∧ Q (.bl b) H
theorem call_isPT {a : Addr} {oe : Obj} {cls : Value} {d : Option Addr} (hz : Zc cls d oe) (hf : ∃ vs, oe.data = .fields vs) (hp : (a, oe) ∈ X.pn) : CallR X (.builtin "isinstance") (rIsPT X.K cls d a) := by
  intro pins s σ H xs us Q I r h
  obtain ⟨D, dd, tp, cs, ws, b, fs, rfl, rfl, C, rfl, hT, k, hd, e, q⟩ := h
  obtain ⟨u1, u2, rfl, r1, r2⟩ := vals2 r
  cases (show u1 = Value.ref a from r1)
  cases (show u2 = Value.ref tp from r2)
  obtain ⟨hget, _⟩ := I.pin (a, oe) (List.mem_append.mpr (.inl hp))
  obtain ⟨mA, hns, _⟩ := (show ObjOk X.prog X.w H s.heap dd (.xd fs) from I.hok dd _ hd)
  obtain ⟨od, ho, _⟩ := lookIn_ns hns
  obtain ⟨vs, hv⟩ := hf
  have J : PySem.W.InstAt s.heap a oe D (some od) := ⟨hget, hz.1, by unfold PySem.W.notCls; rw [hv] <;> rfl, by rw [hz.2]; exact ho⟩
  obtain ⟨_, its, rv, o, h1, h2, n, h3⟩ := (show ObjOk X.prog X.w H s.heap tp (.tup cs) from I.hok tp _ hT)
  have e3 := ClsV.all k rv
  subst e3
  obtain ⟨oc, od2, dt, sl⟩ := o
  simp only at h2 h3
  subst h2 h3
  exact PySem.W.kia_tup (PySem.W.kitx_exc C.cl C.hg C.hk C.hs C.ha C.hn C.ht C.hm) I.kIn J h1 e (fun z => nomatch z) fun tk => ⟨.bl b, H, I.tok tk, rfl, q⟩
/-- the same, one class -/
def rIsPK (K : PySem.W.Frag) (cls : Value) (d : Option Addr) (a : Addr) : List V → Hp → VK → Prop := fun xs H Q => ∃ (D dd : Addr), cls = .ref D ∧ d = some dd ∧ ErC K D ∧ rIsP K D a dd xs H Q
theorem call_isPK {a : Addr} {oe : Obj} {cls : Value} {d : Option Addr} (hz : Zc cls d oe) (hf : ∃ vs, oe.data = .fields vs) (hp : (a, oe) ∈ X.pn) : CallR X (.builtin "isinstance") (rIsPK X.K cls d a) := by
  intro pins s σ H xs us Q I r h
  obtain ⟨D, dd, rfl, rfl, C, h⟩ := h
  exact call_isP C hz hf hp pins s σ H xs us Q I r h
theorem call_isPTK (K : PySem.W.Frag) {a : Addr} {oe : Obj} {cls : Value} {d : Option Addr} (hz : Zc cls d oe) (hf : ∃ vs, oe.data = .fields vs) (hp : (a, oe) ∈ X.pn) (hK : X.K = K := by rfl) : CallR X (.builtin "isinstance") (rIsPT K cls d a) := hK ▸ call_isPT hz hf hp
theorem call_isPKK (K : PySem.W.Frag) {a : Addr} {oe : Obj} {cls : Value} {d : Option Addr} (hz : Zc cls d oe) (hf : ∃ vs, oe.data = .fields vs) (hp : (a, oe) ∈ X.pn) (hK : X.K = K := by rfl) : CallR X (.builtin "isinstance") (rIsPK K cls d a) := hK ▸ call_isPK hz hf hp
/-- repr(x), x plain data -/
def rReprA (K : PySem.W.Frag) : List V → Hp → VK → Prop := fun xs H Q => rRepr K xs H Q ∨ (xs = [.non] ∧ Q (.str "None") H) ∨ (∃ i : Int, xs = [.int i] ∧ i.natAbs.log2 < 1920 ∧ Q (.str (toString i)) H) ∨ (∃ x : PySem.Str, xs = [.str x] ∧ (reprText x).length ≤ sizeLine ∧ Q (.str (reprText x)) H) ∨ (∃ b : Bool, xs = [.bl b] ∧ Q (.str (if b then "True" else "False")) H)
theorem call_reprA (gd : X.A.guards = some []) (hu : X.A.units + 64 < cLine) : CallR X (.builtin "repr") (rReprA X.K) := by
  intro pins s σ H xs us Q I r h
  rcases h with h | ⟨rfl, q⟩ | ⟨i, rfl, hz, q⟩ | ⟨x, rfl, hz, q⟩ | ⟨b, rfl, q⟩
  · exact call_reprD gd hu pins s σ H xs us Q I r h
  · obtain ⟨u, rfl, ru⟩ := vals1 r
    cases ru
    exact PySem.P.repr_of_none ⟨.str _, H, I.tok _, ⟨_, rfl⟩, q⟩
  · obtain ⟨u, rfl, t, rfl⟩ := vals1 r
    exact PySem.P.repr_of_int hz ⟨.str _, H, I.tok _, ⟨_, rfl⟩, q⟩
  · obtain ⟨u, rfl, t, rfl⟩ := vals1 r
    exact PySem.P.repr_of_str (hsz := hz) ⟨.str _, H, I.tok _, ⟨_, rfl⟩, q⟩
  · obtain ⟨u, rfl, ru⟩ := vals1 r
    cases ru
    exact PySem.P.repr_of_bool ⟨.str _, H, I.tok _, ⟨_, rfl⟩, q⟩
theorem call_reprAK (K : PySem.W.Frag) (gd : X.A.guards = some []) (hu : X.A.units + 64 < cLine) (hK : X.K = K := by rfl) : CallR X (.builtin "repr") (rReprA K) := hK ▸ call_reprA gd hu
theorem pe_bmK {T : String} {name : PySem.Str} {id : String} {r : V → List V → Hp → VK → Prop} {o e : Expr} {es : List Expr} {to : TE} {ta : TA} {apos cpos : Pos} (K : PySem.W.Frag) (pa : PlainAttrs T) (slot : Slot T name id) (hty : typeOf (.builtin id) = pure (.type "method_descriptor")) (hm : MtR X id r) (ho : PE X o to) (ha : PA X (e :: es) ta)
    (hK : X.K = K := by rfl) (hbase : attributeBase o name X.env (eval o X.env) = eval o X.env := by rfl)
    (hfew : ((backTo cpos (starEach (e :: es) X.env)).all (fun x => !x.1) && (backToKw cpos (keywordEach [] X.env)).all (fun x => x.1.isSome)
      && decide ((e :: es).length + ([] : List Keyword).length + (if ([] : List Keyword).isEmpty then 0 else 1) < 30)) = true := by rfl)
    (hline : (apos.endLine == cpos.line) = true := by rfl) (hs : starEach (e :: es) X.env = (false, eval e X.env) :: starEach es X.env := by rfl) (hplain : (backTo cpos (starEach es X.env)).any (·.1) = false := by rfl) :
    PE X (.Call (.Attribute o name apos) (e :: es) [] cpos) (tBM K T r to ta) := hK ▸ pe_bm pa slot hty hm ho ha hbase hfew hline hs hplain
theorem passXN {E : XK} (tk : L2N.Takes X fun cls d _ H => E cls d H) : Passes (L2N.CX X.prog X.w) X E := fun pins σ H s e s' I h => L2N.passAt tk σ pins H s e s' I h
end
end SH

set_option Elab.async false
set_option linter.all false
set_option maxRecDepth 100000
namespace SH
open PySem L2
abbrev sRefusal : Stmt := topS 60
theorem scRefusal : FnScope ["_law_e", "_law_some", "_law_names_here", "_law_name", "_law_above", "_law_due"] ["_law_e"] (defScope sRefusal) := ⟨rfl, rfl, rfl, by decide +kernel, rfl, by decide +kernel, by decide +kernel⟩
def spRefus (wd : Str) (CM : Addr) : Addr → Value → Option Addr → Sp := fun a cls d vs H Q _ => cls = .ref CM ∧ d = none ∧ vs = [.ref a] ∧ ∀ H', Same H H' → Q (.str wd) H'
/-- how such an error stands to all that is asked of it -/
structure ErK_tree (K : PySem.W.Frag) (CM cBadText cBadTree cBadArgs cBadHall cBadTurn cNoRow cMissing cBare cSpent cBroken cStealError : Addr) : Prop where
  kBadText : PySem.W.kitOne K (.ref CM) (.ref cBadText) = some false
  kBadTree : PySem.W.kitOne K (.ref CM) (.ref cBadTree) = some true
  kBadArgs : PySem.W.kitOne K (.ref CM) (.ref cBadArgs) = some false
  kBadHall : PySem.W.kitOne K (.ref CM) (.ref cBadHall) = some false
  kBadTurn : PySem.W.kitOne K (.ref CM) (.ref cBadTurn) = some false
  kNoRow : PySem.W.kitOne K (.ref CM) (.ref cNoRow) = some false
  kMissing : PySem.W.kitOne K (.ref CM) (.ref cMissing) = some false
  kBare : PySem.W.kitOne K (.ref CM) (.ref cBare) = some false
  kSpent : PySem.W.kitOne K (.ref CM) (.ref cSpent) = some false
  kBroken : PySem.W.kitOne K (.ref CM) (.ref cBroken) = some false
  kStealError : PySem.W.kitOne K (.ref CM) (.ref cStealError) = some true
  kValueError : PySem.W.kitOne K (.ref CM) (.type "ValueError") = some true
  kLookupError : PySem.W.kitOne K (.ref CM) (.type "LookupError") = some false
  kRuntimeError : PySem.W.kitOne K (.ref CM) (.type "RuntimeError") = some false
  kArithmeticError : PySem.W.kitOne K (.ref CM) (.type "ArithmeticError") = some false
  kKeyError : PySem.W.kitOne K (.ref CM) (.type "KeyError") = some false
  kIndexError : PySem.W.kitOne K (.ref CM) (.type "IndexError") = some false
  kZeroDivisionError : PySem.W.kitOne K (.ref CM) (.type "ZeroDivisionError") = some false
section
variable {P : Program} {w : World} {K : PySem.W.Frag} {mg : Str → Option Value} {base : Heap}
theorem ok_refusal_tree {f CM cBadText cBadTree cBadArgs cBadHall cBadTurn cNoRow cMissing cBare cSpent cBroken cStealError : Addr} {fd : FuncData} (F : Fun K "_law_refusal" "_law_refusal" sRefusal f fd) (EC : ErC K CM) (EK : ErK_tree K CM cBadText cBadTree cBadArgs cBadHall cBadTurn cNoRow cMissing cBare cSpent cBroken cStealError) (T : Bi mg) (gBadText : mg "BadText" = some (.ref cBadText)) (gBadTree : mg "BadTree" = some (.ref cBadTree)) (gBadArgs : mg "BadArgs" = some (.ref cBadArgs)) (gBadHall : mg "BadHall" = some (.ref cBadHall)) (gBadTurn : mg "BadTurn" = some (.ref cBadTurn)) (gNoRow : mg "NoRow" = some (.ref cNoRow)) (gMissing : mg "Missing" = some (.ref cMissing)) (gBare : mg "Bare" = some (.ref cBare)) (gSpent : mg "Spent" = some (.ref cSpent)) (gBroken : mg "Broken" = some (.ref cBroken)) (gStealError : mg "StealError" = some (.ref cStealError)) (q_ValueError : mg "ValueError" = none) (q_LookupError : mg "LookupError" = none) (q_RuntimeError : mg "RuntimeError" = none) (q_ArithmeticError : mg "ArithmeticError" = none) (q_KeyError : mg "KeyError" = none) (q_IndexError : mg "IndexError" = none) (q_ZeroDivisionError : mg "ZeroDivisionError" = none) : FnE P w K mg base 2 f fd ["_law_e"] (spRefus "tree" CM) := by
  refine okE F scRefusal (fun a cls d vs H Q E h => ?_) (fun cdv A outer s H vs Q E p cls d hz hf hr h => ?_)
  · obtain ⟨_, _, rfl, _⟩ := h
    rfl
  obtain ⟨rfl, rfl, rfl, q⟩ := h
  obtain ⟨a, oe⟩ := p
  refine ⟨_, (pss_cons (ps_set (i := 1) scRefusal.nd rfl (Or.inl rfl) (pe_lst (pa_cons (pe_callB (call_is0 EC hz hf List.mem_cons_self) (by rfl) T.isinstance (by decide +kernel) (pa_cons (pv 0) (pa_cons (pe_glob (v := .ref cBadText) rfl gBadText rfl) pa_nil))) (pa_cons (pe_callB (call_is0 EC hz hf List.mem_cons_self) (by rfl) T.isinstance (by decide +kernel) (pa_cons (pv 0) (pa_cons (pe_glob (v := .ref cBadTree) rfl gBadTree rfl) pa_nil))) (pa_cons (pe_callB (call_is0 EC hz hf List.mem_cons_self) (by rfl) T.isinstance (by decide +kernel) (pa_cons (pv 0) (pa_cons (pe_glob (v := .ref cBadArgs) rfl gBadArgs rfl) pa_nil))) (pa_cons (pe_callB (call_is0 EC hz hf List.mem_cons_self) (by rfl) T.isinstance (by decide +kernel) (pa_cons (pv 0) (pa_cons (pe_glob (v := .ref cBadHall) rfl gBadHall rfl) pa_nil))) pa_nil))))))
    (pss_cons (ps_set (i := 1) scRefusal.nd rfl (Or.inl rfl) (pe_op op_cat (pv 1) (pe_lst (pa_cons (pe_callB (call_is0 EC hz hf List.mem_cons_self) (by rfl) T.isinstance (by decide +kernel) (pa_cons (pv 0) (pa_cons (pe_glob (v := .ref cBadTurn) rfl gBadTurn rfl) pa_nil))) (pa_cons (pe_callB (call_is0 EC hz hf List.mem_cons_self) (by rfl) T.isinstance (by decide +kernel) (pa_cons (pv 0) (pa_cons (pe_glob (v := .ref cNoRow) rfl gNoRow rfl) pa_nil))) (pa_cons (pe_callB (call_is0 EC hz hf List.mem_cons_self) (by rfl) T.isinstance (by decide +kernel) (pa_cons (pv 0) (pa_cons (pe_glob (v := .ref cMissing) rfl gMissing rfl) pa_nil))) (pa_cons (pe_callB (call_is0 EC hz hf List.mem_cons_self) (by rfl) T.isinstance (by decide +kernel) (pa_cons (pv 0) (pa_cons (pe_glob (v := .ref cBare) rfl gBare rfl) pa_nil))) pa_nil)))))))
    (pss_cons (ps_set (i := 1) scRefusal.nd rfl (Or.inl rfl) (pe_op op_cat (pv 1) (pe_lst (pa_cons (pe_callB (call_is0 EC hz hf List.mem_cons_self) (by rfl) T.isinstance (by decide +kernel) (pa_cons (pv 0) (pa_cons (pe_glob (v := .ref cSpent) rfl gSpent rfl) pa_nil))) (pa_cons (pe_callB (call_is0 EC hz hf List.mem_cons_self) (by rfl) T.isinstance (by decide +kernel) (pa_cons (pv 0) (pa_cons (pe_glob (v := .ref cBroken) rfl gBroken rfl) pa_nil))) pa_nil)))))
    (pss_cons (ps_set (i := 2) scRefusal.nd rfl (Or.inl rfl) (pe_lst (pa_cons pe_str (pa_cons pe_str (pa_cons pe_str (pa_cons pe_str (pa_cons pe_str (pa_cons pe_str (pa_cons pe_str (pa_cons pe_str (pa_cons pe_str (pa_cons pe_str pa_nil))))))))))))
    (pss_cons (ps_if (pt_cmpR op_ne (pe_bm PySem.F.plainAttrs_list PySem.F.slot_list_count PySem.F.type_list_count mt_countF (pv 1) (pa_cons pe_bl pa_nil)) pe_int (nomark _))
      (pss_one (ps_ret pe_str))
      pss_nil)
    (pss_cons (ps_set (i := 3) scRefusal.nd rfl (Or.inl rfl) (pe_ix ix_list (pv 2) (pe_bm PySem.F.plainAttrs_list PySem.F.slot_list_index PySem.F.type_list_index mt_index (pv 1) (pa_cons pe_bl pa_nil)) (fun _ _ => rfl)))
    (pss_cons (ps_set (i := 4) scRefusal.nd rfl (Or.inl rfl) (pe_lst (pa_cons (pe_callB (call_is0 EC hz hf List.mem_cons_self) (by rfl) T.isinstance (by decide +kernel) (pa_cons (pv 0) (pa_cons (pe_glob (v := .ref cStealError) rfl gStealError rfl) pa_nil))) (pa_cons (pe_callB (call_is0 EC hz hf List.mem_cons_self) (by rfl) T.isinstance (by decide +kernel) (pa_cons (pv 0) (pa_cons (pe_bltn (v := .ty "ValueError") (by rfl) q_ValueError (by decide +kernel) rfl) pa_nil))) (pa_cons (pe_callB (call_is0 EC hz hf List.mem_cons_self) (by rfl) T.isinstance (by decide +kernel) (pa_cons (pv 0) (pa_cons (pe_bltn (v := .ty "LookupError") (by rfl) q_LookupError (by decide +kernel) rfl) pa_nil))) pa_nil)))))
    (pss_cons (ps_set (i := 4) scRefusal.nd rfl (Or.inl rfl) (pe_op op_cat (pv 4) (pe_lst (pa_cons (pe_callB (call_is0 EC hz hf List.mem_cons_self) (by rfl) T.isinstance (by decide +kernel) (pa_cons (pv 0) (pa_cons (pe_bltn (v := .ty "RuntimeError") (by rfl) q_RuntimeError (by decide +kernel) rfl) pa_nil))) (pa_cons (pe_callB (call_is0 EC hz hf List.mem_cons_self) (by rfl) T.isinstance (by decide +kernel) (pa_cons (pv 0) (pa_cons (pe_bltn (v := .ty "ArithmeticError") (by rfl) q_ArithmeticError (by decide +kernel) rfl) pa_nil))) pa_nil)))))
    (pss_cons (ps_set (i := 5) scRefusal.nd rfl (Or.inl rfl) (pe_lst (pa_cons pe_bl (pa_cons pe_bl (pa_cons pe_bl (pa_cons pe_bl (pa_cons pe_bl pa_nil)))))))
    (pss_cons (ps_if (pt_cmpR op_in_seq (pv 3) (pe_lst (pa_cons pe_str (pa_cons pe_str (pa_cons pe_str (pa_cons pe_str pa_nil))))) rfl)
      (pss_one (ps_set (i := 5) scRefusal.nd rfl (Or.inl rfl) (pe_lst (pa_cons pe_bl (pa_cons pe_bl (pa_cons (pe_cmpR op_in_seq (pv 3) (pe_lst (pa_cons pe_str (pa_cons pe_str pa_nil))) rfl) (pa_cons (pe_cmpR op_eq (pv 3) pe_str (nomark _)) (pa_cons (pe_cmpR op_eq (pv 3) pe_str (nomark _)) pa_nil))))))))
      pss_nil)
    (pss_cons (ps_if (PW.pt (pw_or (pt_val (pe_callB (call_is0 EC hz hf List.mem_cons_self) (by rfl) T.isinstance (by decide +kernel) (pa_cons (pv 0) (pa_cons (pe_bltn (v := .ty "KeyError") (by rfl) q_KeyError (by decide +kernel) rfl) pa_nil)))) (pw_or (pt_val (pe_callB (call_is0 EC hz hf List.mem_cons_self) (by rfl) T.isinstance (by decide +kernel) (pa_cons (pv 0) (pa_cons (pe_bltn (v := .ty "IndexError") (by rfl) q_IndexError (by decide +kernel) rfl) pa_nil)))) (pw_or1 (pt_val (pe_callB (call_is0 EC hz hf List.mem_cons_self) (by rfl) T.isinstance (by decide +kernel) (pa_cons (pv 0) (pa_cons (pe_bltn (v := .ty "ZeroDivisionError") (by rfl) q_ZeroDivisionError (by decide +kernel) rfl) pa_nil))))))))
      (pss_one (ps_ret pe_str))
      pss_nil)
    (pss_one (ps_ret (pe_ifExp (pt_cmpR (op_eqD (unH hr)) (pv 4) (pv 5) (nomark _)) (pv 3) pe_str)))))))))))))), ?_⟩
  have hs : sizeLine = 16777216 := by decide
  refine ⟨_, rfl, .ref cBadText, .ref cBadText, false, rfl, (fun _ r => r), EK.kBadText, _, rfl, .ref cBadTree, .ref cBadTree, true, rfl, (fun _ r => r), EK.kBadTree, _, rfl, .ref cBadArgs, .ref cBadArgs, false, rfl, (fun _ r => r), EK.kBadArgs, _, rfl, .ref cBadHall, .ref cBadHall, false, rfl, (fun _ r => r), EK.kBadHall, (by show 4 ≤ sizeLine; decide), fun l1 n1 => ?_⟩
  have s1 := same_new n1 (.lst [V.bl false, V.bl true, V.bl false, V.bl false])
  have h1 := upd_same (H := H) (a := l1) (o := .lst [V.bl false, V.bl true, V.bl false, V.bl false])
  generalize upd H l1 (.lst [V.bl false, V.bl true, V.bl false, V.bl false]) = H1 at s1 h1
  refine ⟨_, rfl, _, rfl, .ref cBadTurn, .ref cBadTurn, false, rfl, (fun _ r => r), EK.kBadTurn, _, rfl, .ref cNoRow, .ref cNoRow, false, rfl, (fun _ r => r), EK.kNoRow, _, rfl, .ref cMissing, .ref cMissing, false, rfl, (fun _ r => r), EK.kMissing, _, rfl, .ref cBare, .ref cBare, false, rfl, (fun _ r => r), EK.kBare, (by show 4 ≤ sizeLine; decide), fun l2 n2 => ?_⟩
  have s2 := same_new n2 (.lst [V.bl false, V.bl false, V.bl false, V.bl false])
  have h2 := upd_same (H := H1) (a := l2) (o := .lst [V.bl false, V.bl false, V.bl false, V.bl false])
  generalize upd H1 l2 (.lst [V.bl false, V.bl false, V.bl false, V.bl false]) = H2 at s2 h2
  refine ⟨l1, l2, _, _, rfl, rfl, s2 _ _ h1, h2, (by show 8 ≤ sizeLine; decide), fun l3 n3 => ?_⟩
  have s3 := same_new n3 (.lst ([V.bl false, V.bl true, V.bl false, V.bl false] ++ [V.bl false, V.bl false, V.bl false, V.bl false]))
  have h3 := upd_same (H := H2) (a := l3) (o := .lst ([V.bl false, V.bl true, V.bl false, V.bl false] ++ [V.bl false, V.bl false, V.bl false, V.bl false]))
  generalize upd H2 l3 (.lst ([V.bl false, V.bl true, V.bl false, V.bl false] ++ [V.bl false, V.bl false, V.bl false, V.bl false])) = H3 at s3 h3
  have s13 := s1.trans (s2.trans s3)
  refine ⟨_, rfl, _, rfl, .ref cSpent, .ref cSpent, false, rfl, (fun _ r => r), EK.kSpent, _, rfl, .ref cBroken, .ref cBroken, false, rfl, (fun _ r => r), EK.kBroken, (by show 2 ≤ sizeLine; decide), fun l4 n4 => ?_⟩
  have s4 := same_new n4 (.lst [V.bl false, V.bl false])
  have h4 := upd_same (H := H3) (a := l4) (o := .lst [V.bl false, V.bl false])
  generalize upd H3 l4 (.lst [V.bl false, V.bl false]) = H4 at s4 h4
  refine ⟨l3, l4, _, _, rfl, rfl, s4 _ _ h3, h4, (by show 10 ≤ sizeLine; decide), fun l5 n5 => ?_⟩
  have s5 := same_new n5 (.lst (([V.bl false, V.bl true, V.bl false, V.bl false] ++ [V.bl false, V.bl false, V.bl false, V.bl false]) ++ [V.bl false, V.bl false]))
  have h5 := upd_same (H := H4) (a := l5) (o := .lst (([V.bl false, V.bl true, V.bl false, V.bl false] ++ [V.bl false, V.bl false, V.bl false, V.bl false]) ++ [V.bl false, V.bl false]))
  generalize upd H4 l5 (.lst (([V.bl false, V.bl true, V.bl false, V.bl false] ++ [V.bl false, V.bl false, V.bl false, V.bl false]) ++ [V.bl false, V.bl false])) = H5 at s5 h5
  refine ⟨(by show 10 ≤ sizeLine; decide), fun l6 n6 => ?_⟩
  have s6 := same_new n6 (.lst [V.str "text", .str "tree", .str "args", .str "hall", .str "turn", .str "row", .str "missing", .str "bare", .str "spent", .str "broken"])
  have h6 := upd_same (H := H5) (a := l6) (o := .lst [V.str "text", .str "tree", .str "args", .str "hall", .str "turn", .str "row", .str "missing", .str "bare", .str "spent", .str "broken"])
  generalize upd H5 l6 (.lst [V.str "text", .str "tree", .str "args", .str "hall", .str "turn", .str "row", .str "missing", .str "bare", .str "spent", .str "broken"]) = H6 at s6 h6
  have k5 := s6 _ _ h5
  refine ⟨_, rfl, .inl ⟨rfl, _, SqL.of k5⟩, l5, _, _, rfl, rfl, SqL.of k5, rfl, rfl, rfl, _, rfl, ?_⟩
  refine iteNS (by rfl) ?_
  refine ⟨_, rfl, _, rfl, .inl ⟨rfl, _, SqL.of k5⟩, l5, _, _, 1, _, rfl, rfl, SqL.of k5, rfl, rfl, rfl, rfl, ?_, ?_⟩
  · intro m z hm e
    have : m = 0 := by omega
    rcases this with rfl <;> (cases e; rfl)
  refine ⟨l6, _, 1, _, rfl, rfl, SqL.of h6, atI_nat (j := 1) rfl, ?_⟩
  have s16 := s13.trans (s4.trans (s5.trans s6))
  refine ⟨_, rfl, .ref cStealError, .ref cStealError, true, rfl, (fun _ r => r), EK.kStealError, _, rfl, .ty "ValueError", .type "ValueError", true, rfl, (fun _ r => r), EK.kValueError, _, rfl, .ty "LookupError", .type "LookupError", false, rfl, (fun _ r => r), EK.kLookupError, (by show 3 ≤ sizeLine; decide), fun l7 n7 => ?_⟩
  have s7 := same_new n7 (.lst [V.bl true, V.bl true, V.bl false])
  have h7 := upd_same (H := H6) (a := l7) (o := .lst [V.bl true, V.bl true, V.bl false])
  generalize upd H6 l7 (.lst [V.bl true, V.bl true, V.bl false]) = H7 at s7 h7
  have s17 := s16.trans s7
  refine ⟨_, rfl, _, rfl, .ty "RuntimeError", .type "RuntimeError", false, rfl, (fun _ r => r), EK.kRuntimeError, _, rfl, .ty "ArithmeticError", .type "ArithmeticError", false, rfl, (fun _ r => r), EK.kArithmeticError, (by show 2 ≤ sizeLine; decide), fun l8 n8 => ?_⟩
  have s8 := same_new n8 (.lst [V.bl false, V.bl false])
  have h8 := upd_same (H := H7) (a := l8) (o := .lst [V.bl false, V.bl false])
  generalize upd H7 l8 (.lst [V.bl false, V.bl false]) = H8 at s8 h8
  refine ⟨l7, l8, _, _, rfl, rfl, s8 _ _ h7, h8, (by show 5 ≤ sizeLine; decide), fun l9 n9 => ?_⟩
  have s9 := same_new n9 (.lst ([V.bl true, V.bl true, V.bl false] ++ [V.bl false, V.bl false]))
  have h9 := upd_same (H := H8) (a := l9) (o := .lst ([V.bl true, V.bl true, V.bl false] ++ [V.bl false, V.bl false]))
  generalize upd H8 l9 (.lst ([V.bl true, V.bl true, V.bl false] ++ [V.bl false, V.bl false])) = H9 at s9 h9
  refine ⟨(by show 5 ≤ sizeLine; decide), fun lA nA => ?_⟩
  have sA := same_new nA (.lst [V.bl true, .bl true, .bl false, .bl false, .bl false])
  have hA := upd_same (H := H9) (a := lA) (o := .lst [V.bl true, .bl true, .bl false, .bl false, .bl false])
  generalize upd H9 lA (.lst [V.bl true, .bl true, .bl false, .bl false, .bl false]) = HA at sA hA
  refine ⟨_, rfl, (by show 4 ≤ sizeLine; decide), fun lB nB => ?_⟩
  have sB := same_new nB (.lst [V.str "missing", .str "bare", .str "spent", .str "broken"])
  have hB := upd_same (H := HA) (a := lB) (o := .lst [V.str "missing", .str "bare", .str "spent", .str "broken"])
  generalize upd HA lB (.lst [V.str "missing", .str "bare", .str "spent", .str "broken"]) = HB at sB hB
  refine ⟨lB, _, rfl, .inl (SqL.of hB), rfl, rfl, false, (by decide +kernel), ?_⟩
  have s1D := s17.trans (s8.trans (s9.trans (sA.trans sB)))
  have k9 := (sA.trans sB) _ _ h9
  have kA := sB _ _ hA
  refine ⟨_, rfl, .ty "KeyError", .type "KeyError", false, rfl, (fun _ r => r), EK.kKeyError, false, rfl, ?_⟩
  refine ⟨_, rfl, .ty "IndexError", .type "IndexError", false, rfl, (fun _ r => r), EK.kIndexError, false, rfl, ?_⟩
  refine ⟨_, rfl, .ty "ZeroDivisionError", .type "ZeroDivisionError", false, rfl, (fun _ r => r), EK.kZeroDivisionError, false, rfl, ?_⟩
  have dA : Dp K HB (.ref l9) (.list [.bool true, .bool true, .bool false, .bool false, .bool false]) := .lst (SqL.of k9) (.cons (.bl _) (.cons (.bl _) (.cons (.bl _) (.cons (.bl _) (.cons (.bl _) .nil)))))
  have dD : Dp K HB (.ref lA) (.list [.bool true, .bool true, .bool false, .bool false, .bool false]) := .lst (SqL.of kA) (.cons (.bl _) (.cons (.bl _) (.cons (.bl _) (.cons (.bl _) (.cons (.bl _) .nil)))))
  refine ⟨_, rfl, _, rfl, _, _, dA, dD, by decide +kernel, by decide +kernel, true, (by decide +kernel), ?_⟩
  exact ⟨_, rfl, q HB s1D⟩
end
structure FkN (P : Program) (w : World) (K : PySem.W.Frag) (mg : Str → Option Value) (base : Heap) (lv : Nat) (x : Str) (f : Addr) (fd : FuncData) (ps : List Str) (sp : Sp) : Prop where
  G : FnOk P w K mg base (L2N.CX P w) lv f fd ps sp
  m : mg x = some (.ref f)
  k : PySem.W.keepIn K (.ref f) = true
  b : Binds K fd ps []
def tCallX (sp : Sp) (E : L2.St → XK) (t : TA) : TE := fun σ H Q => t σ H fun vs H1 => sp vs H1 Q (E σ)
theorem pe_callX {X : Cx} {CX : CXT} {k : Nat} {f : Addr} {fd : FuncData} {ps : List Str} {sp : Sp} {E : L2.St → XK} {x : Str} {p pos : Pos} {e : Expr} {es : List Expr} {t : TA} (F : FnOk X.prog X.w X.K X.mg X.base CX k f fd ps sp) (hr : Room k X.A) (hg : Gl X x) (hm : X.mg x = some (.ref f)) (hk : PySem.W.keepIn X.K (.ref f) = true) (hb : Binds X.K fd ps []) (hx : ∀ σ, PassesAt CX X σ (E σ)) (ha : PA X (e :: es) t)
    (hdb : (x == ("__debug__" : Str)) = false := by decide) (he : starEach (e :: es) X.env = (false, eval e X.env) :: starEach es X.env := by rfl) (hpl : (backTo pos (starEach es X.env)).any (·.1) = false := by rfl) :
    PE X (.Call (.Name x p) (e :: es) [] pos) (tCallX sp E t) := by
  constructor
  intro pins s σ H Q I h
  refine wpAny_Call_Name_kw (ld_glob I hg hm ?_ hdb)
  refine PySem.W.callWith_K (h₀ := X.base) I.ok.mod.kin hk (thn (ha.run pos pins s σ H _ I h) ?_) he hpl
  rintro us s1 ⟨vs, H1, I1, r, q⟩
  exact ⟨I1.kIn, run_fnS F hr hb (hx σ) I1 r q⟩
abbrev sSaid01 : Stmt := topS 61
theorem scSaid01 : FnScope ["_law_thing", "_law_e"] ["_law_thing"] (defScope sSaid01) := ⟨rfl, rfl, rfl, by decide +kernel, rfl, by decide +kernel, by decide +kernel⟩
/-- what is said of a thing: nothing, or that it is no tree -/
def spSaid01 : Sp := fun vs H Q _ => ∃ (v : V) (d : PyData), vs = [v] ∧ DpU H v d ∧ Any d ∧ ∀ H', Same H H' → Q (if workB d then .non else .str "tree") H'
section
variable {P : Program} {w : World} {K : PySem.W.Frag} {mg : Str → Option Value} {base : Heap}
theorem ok_said01 {f c r CT CS : Addr} {fd cd rd : FuncData} (F : Fun K "_law_said" "_law_said" sSaid01 f fd) (CW : FkN P w K mg base 24 "check_work" c cd ["thing"] (spChkD CT)) (GR : FnE P w K mg base 2 r rd ["_law_e"] (spRefus "tree" CT)) (mR : mg "_law_refusal" = some (.ref r)) (kR : PySem.W.keepIn K (.ref r) = true) (bR : Binds K rd ["_law_e"] []) (gS : mg "StealError" = some (.ref CS)) (te : PySem.W.exmOne K (.ref CT) (.ref CS) = some true) : FnOk P w K mg base CX0 25 f fd ["_law_thing"] spSaid01 := by
  refine F.ok scSaid01 (fun vs H Q E h => ?_) (fun cdv A outer s H vs Q E hr h => ?_)
  · obtain ⟨v, d, rfl, _⟩ := h
    rfl
  obtain ⟨v, d, rfl, hd, hy, q⟩ := h
  refine ⟨_, (pss_one (L2N.ps_try_as (i := 1) rfl rfl scSaid01.nd rfl rfl ⟨by rfl, by decide, .inl gS⟩ takesN (fun W pn xe tk hp => pss_one (ps_ret (pe_callX CW.G (hr.mono (by omega)) (by rfl) CW.m CW.k CW.b (fun σ => L2N.passAt tk σ) (pa_cons (pv 0) pa_nil))))
      (fun a oe cls d pn hz hf => pss_one (ps_ret (pe_callE hz.zc hf GR ⟨(hr.mono (by omega : 2 ≤ 24)).dp, (hr.mono (by omega : 2 ≤ 24)).un⟩ rfl mR kR bR (pa_cons (pv 1) pa_nil)))))), ?_⟩
  refine ⟨_, rfl, v, d, rfl, hd, hy, fun c H1 s1 => ?_, fun c H1 s1 => ?_⟩
  · have := q H1 s1
    rw [c, if_pos rfl] at this
    exact this
  · refine ⟨true, te, fun _ a0 _ => ?_, fun q => Bool.noConfusion q⟩
    refine ⟨_, rfl, rfl, rfl, rfl, fun H2 s2 => ?_⟩
    have := q H2 (s1.trans s2)
    rw [c, if_neg Bool.false_ne_true] at this
    exact this
end
end SH

set_option Elab.async false
set_option linter.all false
set_option maxRecDepth 100000
namespace SH
open PySem L2
/-! ### a drawn work as plain data -/
section
variable {H G : Hp}
theorem Ex.dpu (k : ∀ a xs, H a = some (.tup xs) → G a = some (.tup xs)) : ∀ {e : Ex} {v : V}, TrIn H e v → DpU G v e.dat
  | .num _, _, ⟨a, e, h⟩ => e ▸ .tup (k _ _ h) (.cons (.str _) (.cons (.int _) .nil))
  | .nam _, _, ⟨a, e, h⟩ => e ▸ .tup (k _ _ h) (.cons (.str _) (.cons (.str _) .nil))
  | .op _ _ _, _, ⟨a, x, y, e, h, l, r⟩ => e ▸ .tup (k _ _ h) (.cons (.str _) (.cons (Ex.dpu k l) (.cons (Ex.dpu k r) .nil)))
theorem exs_dpu (k : ∀ a xs, H a = some (.tup xs) → G a = some (.tup xs)) : ∀ {es : List Ex} {vs : List V}, TrsIn H es vs → DpsU G vs (es.map Ex.dat)
  | [], _, e => by
    cases (show _ = [] from e)
    exact .nil
  | e :: es, _, ⟨v, r, q, h, t⟩ => q ▸ .cons (Ex.dpu k h) (exs_dpu k t)
theorem opt_dpu (k : ∀ a xs, H a = some (.tup xs) → G a = some (.tup xs)) : ∀ {oe : Option Ex} {v : V}, OptIn H oe v → DpU G v (optDat oe)
  | none, _, e => by
    cases (show _ = V.non from e)
    exact .non
  | some e, _, h => Ex.dpu k h
theorem Rs.dpu (k : ∀ a xs, H a = some (.tup xs) → G a = some (.tup xs)) : ∀ {r : Rs} {vs : List V}, RsIn H r vs → DpsU G vs r.dat
  | .nil, _, e => by
    cases (show _ = [] from e)
    exact .nil
  | .put _ _ t, _, ⟨a, v, r, q, h, e, n⟩ => q ▸ .cons (.tup (k _ _ h) (.cons (.str _) (.cons (.str _) (.cons (Ex.dpu k e) .nil)))) (Rs.dpu k n)
  | .go _ _ _ _ t, _, ⟨a, p, ws, r, q, h, hp, e, n⟩ => q ▸ .cons (.tup (k _ _ h) (.cons (.str _) (.cons (.str _) (.cons (.str _) (.cons (.tup (k _ _ hp) (exs_dpu k e)) .nil))))) (Rs.dpu k n)
  | .wait _ _ _ t, _, ⟨a, v, r, q, h, e, n⟩ => q ▸ .cons (.tup (k _ _ h) (.cons (.str _) (.cons (.str _) (.cons (.str _) (.cons (opt_dpu k e) .nil))))) (Rs.dpu k n)
  | .iff _ _ _ t, _, ⟨a, v, p, xs, p', ys, r, q, h, e, hp, A, hp', B, n⟩ => q ▸ .cons (.tup (k _ _ h) (.cons (.str _) (.cons (Ex.dpu k e) (.cons (.tup (k _ _ hp) (Rs.dpu k A)) (.cons (.tup (k _ _ hp') (Rs.dpu k B)) .nil))))) (Rs.dpu k n)
  | .give _ _ t, _, ⟨a, v, r, q, h, e, n⟩ => q ▸ .cons (.tup (k _ _ h) (.cons (.str _) (.cons (Ex.dpu k e) .nil))) (Rs.dpu k n)
theorem Wk.dpu (k : ∀ a xs, H a = some (.tup xs) → G a = some (.tup xs)) {W : Wk} {v : V} : WkIn H W v → DpU G v W.dat
  | ⟨a, pn, pr, xs, e, h, hn, hp, q⟩ => e ▸ .tup (k _ _ h) (.cons (.str _) (.cons (.str _) (.cons (.tup (k _ _ hn) (DpsU.strs G _)) (.cons (.int _) (.cons (.tup (k _ _ hp) (Rs.dpu k q)) .nil)))))
end
def tW : Nat → Nat
  | 0 => 70
  | n + 1 => 31 + 2 * tW n
theorem tW_ge : ∀ n, 70 ≤ tW n
  | 0 => Nat.le_refl _
  | n + 1 => by
    have := tW_ge n
    show 70 ≤ 31 + 2 * tW n
    omega
theorem asc_name {s : Str} (h : NmOk s) : s.cps.all (· < 128) = true := by
  rw [asc_list]
  intro c hc
  have := h.1.2.2 c hc
  omega
theorem len_name {s : Str} (h : NmOk s) : s.length ≤ 8 := by
  have := h.1.2.1
  rwa [codes_len] at this
theorem Ex.ap : ∀ {n : Nat} {e : Ex}, Ex.fine n e → asc B30 e.dat = true ∧ wt e.dat ≤ tW n
  | 0, _, h => h.elim
  | n + 1, .num i, h => by
    have e0 : (1000000 : Int) ^ 5 = 10 ^ 30 := by decide +kernel
    refine ⟨?_, ?_⟩
    · show (asc B30 (.str "number") && (asc B30 (.int i) && true)) = true
      have : asc B30 (.int i) = true := decide_eq_true (by
        have h0 := h.1
        have h1 := h.2
        show i.natAbs ≤ 10 ^ 30
        omega)
      rw [this]
      decide +kernel
    · show 3 + ((10 * ("number" : Str).length + 2) + 2 + (101 + 2 + 0)) ≤ 31 + 2 * tW n
      have : ("number" : Str).length = 6 := by decide +kernel
      have := tW_ge n
      omega
  | n + 1, .nam s, h => by
    refine ⟨?_, ?_⟩
    · show (asc B30 (.str "name") && (s.cps.all (· < 128) && true)) = true
      rw [asc_name h]
      decide +kernel
    · show 3 + ((10 * ("name" : Str).length + 2) + 2 + ((10 * s.length + 2) + 2 + 0)) ≤ 31 + 2 * tW n
      have : ("name" : Str).length = 4 := by decide +kernel
      have := len_name h
      have := tW_ge n
      omega
  | n + 1, .op g l r, h => by
    have hl := Ex.ap h.1
    have hr := Ex.ap h.2
    have hg : g.txt.length ≤ 2 := by cases g <;> decide +kernel
    refine ⟨?_, ?_⟩
    · show (asc B30 (.str g.txt) && (asc B30 l.dat && (asc B30 r.dat && true))) = true
      rw [hl.1, hr.1]
      cases g <;> decide +kernel
    · show 3 + ((10 * g.txt.length + 2) + 2 + (wt l.dat + 2 + (wt r.dat + 2 + 0))) ≤ 31 + 2 * tW n
      omega
theorem t6 : tW 6 = 6433 := rfl
theorem Ex.ap6 {e : Ex} (h : Ex.fine 6 e) : asc B30 e.dat = true ∧ wt e.dat ≤ 6433 := Ex.ap h
theorem exs_ap : ∀ {es : List Ex}, (∀ e ∈ es, Ex.fine 6 e) → ascs B30 (es.map Ex.dat) = true ∧ wts (es.map Ex.dat) ≤ 6435 * es.length
  | [], _ => ⟨rfl, Nat.le_refl _⟩
  | e :: es, h => by
    have h1 := Ex.ap6 (h e (List.mem_cons_self ..))
    have h2 := exs_ap fun x hx => h x (List.mem_cons_of_mem _ hx)
    refine ⟨?_, ?_⟩
    · show (asc B30 e.dat && ascs B30 (es.map Ex.dat)) = true
      rw [h1.1, h2.1]
      rfl
    · show wt e.dat + 2 + wts (es.map Ex.dat) ≤ 6435 * (es.length + 1)
      omega
theorem nm_ap {s : Str} (h : NmOk s) : asc B30 (.str s) = true ∧ wt (.str s) ≤ 82 := ⟨asc_name h, by have := len_name h; show 10 * s.length + 2 ≤ 82; omega⟩
theorem asc2 {a b : PyData} (h : asc B30 a = true) (k : asc B30 b = true) : ascs B30 [a, b] = true := by show (asc B30 a && (asc B30 b && true)) = true; rw [h, k]; rfl
theorem asc3 {a b c : PyData} (h : asc B30 a = true) (k : asc B30 b = true) (l : asc B30 c = true) : ascs B30 [a, b, c] = true := by show (asc B30 a && (asc B30 b && (asc B30 c && true))) = true; rw [h, k, l]; rfl
theorem asc4 {a b c d : PyData} (h : asc B30 a = true) (k : asc B30 b = true) (l : asc B30 c = true) (m : asc B30 d = true) : ascs B30 [a, b, c, d] = true := by show (asc B30 a && (asc B30 b && (asc B30 c && (asc B30 d && true)))) = true; rw [h, k, l, m]; rfl
theorem Rs.ap : ∀ (r : Rs) {n : Nat}, Rs.ok n r → ascs B30 r.dat = true ∧ wts r.dat ≤ 26000 * r.count
  | .nil, _, _ => ⟨rfl, Nat.le_refl _⟩
  | .put x e t, n, h => by
    have h1 := nm_ap h.1
    have h2 := Ex.ap6 h.2.1
    have h3 := Rs.ap t h.2.2
    have w0 : wt (.str "put") = 32 := by decide +kernel
    refine ⟨?_, ?_⟩
    · show (ascs B30 [.str "put", .str x, e.dat] && ascs B30 t.dat) = true
      rw [asc3 (by decide +kernel) h1.1 h2.1, h3.1]
      rfl
    · show 3 + (wt (.str "put") + 2 + (wt (.str x) + 2 + (wt e.dat + 2 + 0))) + 2 + wts t.dat ≤ 26000 * (1 + t.count)
      omega
  | .go w x f es t, n, h => by
    have h1 := nm_ap h.1
    have h2 := nm_ap h.2.1
    have h3 := exs_ap h.2.2.2.1
    have h4 := Rs.ap t h.2.2.2.2
    have l4 := h.2.2.1
    have w0 : asc B30 (.str (goW w)) = true ∧ wt (.str (goW w)) ≤ 42 := by cases w <;> decide +kernel
    refine ⟨?_, ?_⟩
    · show (ascs B30 [.str (goW w), .str x, .str f, .tuple (es.map Ex.dat)] && ascs B30 t.dat) = true
      rw [asc4 w0.1 h1.1 h2.1 (show asc B30 (.tuple (es.map Ex.dat)) = true from h3.1), h4.1]
      rfl
    · show 3 + (wt (.str (goW w)) + 2 + (wt (.str x) + 2 + (wt (.str f) + 2 + (3 + wts (es.map Ex.dat) + 2 + 0)))) + 2 + wts t.dat ≤ 26000 * (1 + t.count)
      omega
  | .wait x y oe t, n, h => by
    have h1 := nm_ap h.1
    have h2 := nm_ap h.2.1
    have h4 := Rs.ap t h.2.2.2
    have w0 : wt (.str "wait") = 42 := by decide +kernel
    have h3 : asc B30 (optDat oe) = true ∧ wt (optDat oe) ≤ 6433 := by
      cases oe with
      | none => exact ⟨rfl, by decide⟩
      | some e => exact Ex.ap6 (h.2.2.1 e rfl)
    refine ⟨?_, ?_⟩
    · show (ascs B30 [.str "wait", .str x, .str y, optDat oe] && ascs B30 t.dat) = true
      rw [asc4 (by decide +kernel) h1.1 h2.1 h3.1, h4.1]
      rfl
    · show 3 + (wt (.str "wait") + 2 + (wt (.str x) + 2 + (wt (.str y) + 2 + (wt (optDat oe) + 2 + 0)))) + 2 + wts t.dat ≤ 26000 * (1 + t.count)
      omega
  | .iff e a b t, n, h => by
    have h1 := Ex.ap6 h.2.1
    have h2 := Rs.ap a h.2.2.1
    have h3 := Rs.ap b h.2.2.2.1
    have h4 := Rs.ap t h.2.2.2.2
    have w0 : wt (.str "if") = 22 := by decide +kernel
    refine ⟨?_, ?_⟩
    · show (ascs B30 [.str "if", e.dat, .tuple a.dat, .tuple b.dat] && ascs B30 t.dat) = true
      rw [asc4 (by decide +kernel) h1.1 (show asc B30 (.tuple a.dat) = true from h2.1) (show asc B30 (.tuple b.dat) = true from h3.1), h4.1]
      rfl
    · show 3 + (wt (.str "if") + 2 + (wt e.dat + 2 + (3 + wts a.dat + 2 + (3 + wts b.dat + 2 + 0)))) + 2 + wts t.dat ≤ 26000 * (1 + a.count + b.count + t.count)
      omega
  | .give w e t, n, h => by
    have h1 := Ex.ap6 h.1
    have h4 := Rs.ap t h.2
    have w0 : asc B30 (.str (giveW w)) = true ∧ wt (.str (giveW w)) ≤ 42 := by cases w <;> decide +kernel
    refine ⟨?_, ?_⟩
    · show (ascs B30 [.str (giveW w), e.dat] && ascs B30 t.dat) = true
      rw [asc2 w0.1 h1.1, h4.1]
      rfl
    · show 3 + (wt (.str (giveW w)) + 2 + (wt e.dat + 2 + 0)) + 2 + wts t.dat ≤ 26000 * (1 + t.count)
      omega
theorem names_ap : ∀ {l : List Str}, (∀ s ∈ l, NmOk s) → ascs B30 (l.map PyData.str) = true ∧ wts (l.map PyData.str) ≤ 84 * l.length
  | [], _ => ⟨rfl, Nat.le_refl _⟩
  | s :: l, h => by
    have h1 := nm_ap (h s (List.mem_cons_self ..))
    have h2 := names_ap fun x hx => h x (List.mem_cons_of_mem _ hx)
    refine ⟨?_, ?_⟩
    · show (asc B30 (.str s) && ascs B30 (l.map PyData.str)) = true
      rw [h1.1, h2.1]
      rfl
    · show wt (.str s) + 2 + wts (l.map PyData.str) ≤ 84 * (l.length + 1)
      omega
theorem Wk.pl {W : Wk} (h : W.ok) : Pl B30 16 1050000 W.dat := by
  have h1 := nm_ap h.name
  have h2 := names_ap h.names
  have h3 := Rs.ap W.rows h.rows
  have hf := h.few
  have hc := h.count
  have w0 : wt (.str "work") = 42 := by decide +kernel
  have r0 : asc B30 (.int W.room) = true := decide_eq_true (by have := h.room0; have := h.room1; show W.room.natAbs ≤ 10 ^ 30; omega)
  refine ⟨?_, (Wk.fit h).2, ?_⟩
  · show (asc B30 (.str "work") && (asc B30 (.str W.name) && (ascs B30 (W.names.map PyData.str) && (asc B30 (.int W.room) && (ascs B30 W.rows.dat && true))))) = true
    rw [h1.1, h2.1, h3.1, r0]
    decide +kernel
  · show 3 + (wt (.str "work") + 2 + (wt (.str W.name) + 2 + (3 + wts (W.names.map PyData.str) + 2 + (101 + 2 + (3 + wts W.rows.dat + 2 + 0))))) ≤ 1050000
    omega
end SH

set_option Elab.async false
set_option linter.all false
set_option maxRecDepth 100000
namespace SH
open PySem L2
/-- t * k: the tuple itself or a new one -/
def rRepX : R2 := fun x y H Q => ∃ (l : Addr) (k : Nat) (xs : List V), x = .ref l ∧ y = .int (k : Nat) ∧ H l = some (.tup xs) ∧ xs ≠ [] ∧ xs.length ≤ 1000 ∧ k ≤ 1000 ∧ ∀ p H', Same H H' → (p = l ∨ H p = none) → H' p = some (.tup (List.replicate k xs).flatten) → Q (.ref p) H'
theorem op_repX {X : Cx} : OpR X (binaryOp .Mult) rRepX := by
  intro pins s σ H x y v u Q I rx ry h
  obtain ⟨l, k, xs, rfl, rfl, hl, ne, lx, lk, q⟩ := h
  match k, lk, ry, q with
  | 0, _, ry, q => exact op_repB pins s σ H _ _ v u Q I rx ry ⟨l, 0, xs, rfl, rfl, hl, ne, .inr ⟨rfl, fun p np => q p _ (same_new np _) (.inr np) upd_same⟩⟩
  | 1, _, ry, q => exact op_repB pins s σ H _ _ v u Q I rx ry ⟨l, 1, xs, rfl, rfl, hl, ne, .inl ⟨rfl, q l H (Same.refl H) (.inl rfl) (by rw [hl]; simp)⟩⟩
  | k + 2, lk, ry, q => exact op_repT pins s σ H _ _ v u Q I rx ry ⟨l, ((k + 2 : Nat) : Int), xs, rfl, rfl, SqT.of hl, ne, by omega, by omega, lx, fun p np => q p _ (same_new np _) (.inr np) upd_same⟩
/-- the tuples of a heap alone -/
def tpl (H : Hp) : Hp := fun a => match H a with
  | some (.tup xs) => some (.tup xs)
  | _ => none
theorem tpl_at {H : Hp} {a : Addr} {xs : List V} (e : H a = some (.tup xs)) : tpl H a = some (.tup xs) := by
  unfold tpl
  rw [e]
theorem tpl_is {H : Hp} {a : Addr} {o : HO} (e : tpl H a = some o) : ∃ xs, o = .tup xs ∧ H a = some (.tup xs) := by
  unfold tpl at e
  split at e
  · next xs h => cases e; exact ⟨xs, rfl, h⟩
  · cases e
theorem tpl_same (H : Hp) : Same (tpl H) H := fun a o e => by
  obtain ⟨xs, rfl, h⟩ := tpl_is e
  exact h
theorem tpl_keep {H H' : Hp} (s : Same H H') : Same (tpl H) (tpl H') := fun a o e => by
  obtain ⟨xs, rfl, h⟩ := tpl_is e
  exact tpl_at (s _ _ h)
theorem tpl_upd {H : Hp} {a : Addr} {xs ys : List V} (e : H a = some (.lst xs)) : Same (tpl H) (tpl (upd H a (.lst ys))) := fun x o h => by
  obtain ⟨zs, rfl, g⟩ := tpl_is h
  exact tpl_at (by rw [upd_ne (fun z => by rw [z, e] at g; cases g)]; exact g)
abbrev sDeeper : Stmt := topS 63
theorem scDeeper : FnScope ["_law_deep_here", "_law_tree_here", "_law_k"] ["_law_deep_here"] (defScope sDeeper) := ⟨rfl, rfl, rfl, by decide +kernel, rfl, by decide +kernel, by decide +kernel⟩
def spDeeper : Sp := fun vs H Q _ => ∃ (n : Nat), vs = [.int (n : Nat)] ∧ 1 ≤ n ∧ n ≤ 7 ∧ ∀ (v : V) (d : PyData) (H' : Hp), Same H H' → DpU (tpl H') v d → Pl 100 8 5000 d → Q v H'
section
variable {P : Program} {w : World} {K : PySem.W.Frag} {mg : Str → Option Value} {base : Heap}
theorem ok_deeper {f : Addr} {fd : FuncData} (F : Fun K "_law_deeper" "_law_deeper" sDeeper f fd) (T : Bi mg) : FnOk P w K mg base CX0 1 f fd ["_law_deep_here"] spDeeper := by
  refine F.ok scDeeper (fun vs H Q E h => ?_) (fun cdv A outer s H vs Q E hr h => ?_)
  · obtain ⟨n, rfl, _⟩ := h
    rfl
  obtain ⟨n, rfl, h1, h7, q⟩ := h
  refine ⟨_, (pss_cons (ps_set (i := 1) scDeeper.nd rfl (Or.inl rfl) (pe_tup (pa_cons pe_str (pa_cons pe_str pa_nil))))
    (pss_cons (ps_for PassesOwn.never rfl (pi_range1 (by rfl) T.range (pa_cons (pe_op op_sub (pv 0) pe_int) pa_nil)) (pg_name (i := 2) scDeeper.nd rfl (.inl rfl))
      (pss_one (ps_set (i := 1) scDeeper.nd rfl (Or.inl rfl) (pe_ix ix_list (pe_lst (pa_cons (pe_tup (pa_cons pe_str (pa_cons (pv 1) (pa_cons (pe_tup (pa_cons pe_str (pa_cons (pv 2) pa_nil))) pa_nil)))) (pa_cons (pe_tup (pa_cons pe_str (pa_cons (pe_tup (pa_cons pe_str (pa_cons (pv 2) pa_nil))) (pa_cons (pv 1) pa_nil)))) pa_nil))) (pe_op op_mod (pv 2) pe_int) (fun _ _ => rfl)))))
    (pss_one (ps_ret (pv 1))))), ?_⟩
  have hs : sizeLine = 16777216 := by decide
  refine ⟨(by show 2 ≤ sizeLine; decide), fun p0 np0 => ?_⟩
  have s1 := same_new np0 (.tup [V.str "name", .str "x"])
  have d1 : DpU (tpl (upd H p0 (.tup [V.str "name", .str "x"]))) (.ref p0) (.tuple [.str "name", .str "x"]) := .tup (tpl_at upd_same) (.cons (.str _) (.cons (.str _) .nil))
  generalize upd H p0 (.tup [V.str "name", .str "x"]) = H1 at s1 d1 ⊢
  refine ⟨_, rfl, _, _, rfl, rfl, _, rfl, by omega, by omega, ?_⟩
  refine for_range (lo := 0) (n := (((n : Nat) : Int) - 1).toNat) (fun j σ H' => ∃ (v : V) (d : PyData) (y : Option V), σ = [some (.int (n : Nat)), some v, y] ∧ DpU (tpl H') v d ∧ Pl 100 (j + 1) (200 + 400 * j) d ∧ Same H H') ?_ ?_ ?_
  · exact ⟨_, _, none, rfl, d1, ⟨by decide +kernel, by decide +kernel, by decide +kernel⟩, s1⟩
  · rintro j σ H2 hj ⟨v, d, y, rfl, hv, hp, s2⟩
    have hj6 : j < 6 := by omega
    refine ⟨_, rfl, _, rfl, (by show 2 ≤ sizeLine; decide), fun p1 np1 => ?_⟩
    have t1 := same_new np1 (.tup [V.str "number", V.int (0 + (j : Int))])
    have f1 := upd_same (H := H2) (a := p1) (o := (.tup [V.str "number", V.int (0 + (j : Int))]))
    generalize upd H2 p1 (.tup [V.str "number", V.int (0 + (j : Int))]) = H3 at t1 f1 ⊢
    refine ⟨(by show 3 ≤ sizeLine; decide), fun p2 np2 => ?_⟩
    have t2 := same_new np2 (.tup [V.str "+", v, V.ref p1])
    have f2 := upd_same (H := H3) (a := p2) (o := (.tup [V.str "+", v, V.ref p1]))
    generalize upd H3 p2 (.tup [V.str "+", v, V.ref p1]) = H4 at t2 f2 ⊢
    refine ⟨_, rfl, (by show 2 ≤ sizeLine; decide), fun p3 np3 => ?_⟩
    have t3 := same_new np3 (.tup [V.str "number", V.int (0 + (j : Int))])
    have f3 := upd_same (H := H4) (a := p3) (o := (.tup [V.str "number", V.int (0 + (j : Int))]))
    generalize upd H4 p3 (.tup [V.str "number", V.int (0 + (j : Int))]) = H5 at t3 f3 ⊢
    refine ⟨_, rfl, (by show 3 ≤ sizeLine; decide), fun p4 np4 => ?_⟩
    have t4 := same_new np4 (.tup [V.str "<", V.ref p3, v])
    have f4 := upd_same (H := H5) (a := p4) (o := (.tup [V.str "<", V.ref p3, v]))
    generalize upd H5 p4 (.tup [V.str "<", V.ref p3, v]) = H6 at t4 f4 ⊢
    refine ⟨(by show 2 ≤ sizeLine; decide), fun p5 np5 => ?_⟩
    have t5 := same_new np5 (.lst [V.ref p2, V.ref p4])
    have f5 := upd_same (H := H6) (a := p5) (o := (.lst [V.ref p2, V.ref p4]))
    generalize upd H6 p5 (.lst [V.ref p2, V.ref p4]) = H7 at t5 f5 ⊢
    have t27 := t1.trans (t2.trans (t3.trans (t4.trans t5)))
    have hv7 := hv.same (tpl_keep t27)
    have g1 : DpU (tpl H7) (.ref p1) (.tuple [.str "number", .int (0 + (j : Int))]) := .tup (tpl_at ((t2.trans (t3.trans (t4.trans t5))) _ _ f1)) (.cons (.str _) (.cons (.int _) .nil))
    have g3 : DpU (tpl H7) (.ref p3) (.tuple [.str "number", .int (0 + (j : Int))]) := .tup (tpl_at ((t4.trans t5) _ _ f3)) (.cons (.str _) (.cons (.int _) .nil))
    have g2 : DpU (tpl H7) (.ref p2) (.tuple [.str "+", d, .tuple [.str "number", .int (0 + (j : Int))]]) := .tup (tpl_at ((t3.trans (t4.trans t5)) _ _ f2)) (.cons (.str _) (.cons hv7 (.cons g1 .nil)))
    have g4 : DpU (tpl H7) (.ref p4) (.tuple [.str "<", .tuple [.str "number", .int (0 + (j : Int))], d]) := .tup (tpl_at (t5 _ _ f4)) (.cons (.str _) (.cons g3 (.cons hv7 .nil)))
    have aj : asc 100 (.int (0 + (j : Int))) = true := decide_eq_true (by omega)
    have an : asc 100 (.tuple [.str "number", .int (0 + (j : Int))]) = true := by
      show (asc 100 (.str "number") && (asc 100 (.int (0 + (j : Int))) && true)) = true
      rw [aj]
      decide +kernel
    have wn : wt (.tuple [.str "number", .int (0 + (j : Int))]) = 170 := rfl
    have dd := hp.dep
    have dw := hp.w
    have q2 : Pl 100 (j + 1 + 1) (200 + 400 * (j + 1)) (.tuple [.str "+", d, .tuple [.str "number", .int (0 + (j : Int))]]) := by
      refine ⟨?_, ?_, ?_⟩
      · show (asc 100 (.str "+") && (asc 100 d && (asc 100 (.tuple _) && true))) = true
        rw [hp.a, an]
        decide +kernel
      · show max 0 (max d.depth (max (max 0 (max 0 0) + 1) 0)) + 1 ≤ j + 1 + 1
        omega
      · show 3 + (12 + 2 + (wt d + 2 + (wt (.tuple _) + 2 + 0))) ≤ _
        rw [wn]
        omega
    have q4 : Pl 100 (j + 1 + 1) (200 + 400 * (j + 1)) (.tuple [.str "<", .tuple [.str "number", .int (0 + (j : Int))], d]) := by
      refine ⟨?_, ?_, ?_⟩
      · show (asc 100 (.str "<") && (asc 100 (.tuple _) && (asc 100 d && true))) = true
        rw [hp.a, an]
        decide +kernel
      · show max 0 (max (max 0 (max 0 0) + 1) (max d.depth 0)) + 1 ≤ j + 1 + 1
        omega
      · show 3 + (12 + 2 + (wt (.tuple _) + 2 + (wt d + 2 + 0))) ≤ _
        rw [wn]
        omega
    refine ⟨_, rfl, _, _, rfl, rfl, (show (0 : Int) < 2 by decide), ?_⟩
    have em : (0 + (j : Int)) % 2 = 0 ∨ (0 + (j : Int)) % 2 = 1 := by omega
    rcases em with em | em
    · exact ⟨p5, _, (0 + (j : Int)) % 2, _, rfl, rfl, SqL.of f5, (by rw [em]; exact atI_nat (j := 0) rfl), _, _, _, rfl, g2, q2, s2.trans t27⟩
    · exact ⟨p5, _, (0 + (j : Int)) % 2, _, rfl, rfl, SqL.of f5, (by rw [em]; exact atI_nat (j := 1) rfl), _, _, _, rfl, g4, q4, s2.trans t27⟩
  · rintro σ H2 ⟨v, d, y, rfl, hv, hp, s2⟩
    exact ⟨_, rfl, q v d H2 s2 hv (hp.up (Nat.le_refl _) (by omega) (by omega))⟩
end
end SH

set_option Elab.async false
set_option linter.all false
set_option maxRecDepth 100000
namespace SH
open PySem L2
theorem sl_tupAK {X : Cx} (K : PySem.W.Frag) (h : X.K = K := by rfl) : SlR X (rSlA K) := h ▸ sl_tupA
abbrev sEdges : Stmt := topS 64
theorem scEdges : FnScope ["_law_row_here", "_law_some", "_law_many", "_law_rows_here", "_law_k", "_law_deep_here", "_law_names_here", "_law_number_here", "_law_trees"] [] (defScope sEdges) := ⟨rfl, rfl, rfl, by decide +kernel, rfl, by decide +kernel, by decide +kernel⟩
def spEdges : Sp := fun vs H Q _ => vs = [] ∧ ∀ (p : Addr) (xs : List V) (ds : List PyData) (H' : Hp), Same H H' → H p = none → H' p = some (.lst xs) → DpsU H' xs ds → (∀ d ∈ ds, Any d) → ds.length ≤ 1000 → Q (.ref p) H'
def anyB (d : PyData) : Bool := SeqAt.shaped d && decide (wt d ≤ 16000000)
theorem anyB_any {d : PyData} (h : anyB d = true) : Any d := by
  have h' := Bool.and_eq_true_iff.mp h
  exact ⟨h'.1, of_decide_eq_true h'.2⟩
/-- things made of tuples, each one that can be asked -/
def AllT (H : Hp) (vs : List V) : Prop := ∃ ds, DpsU (tpl H) vs ds ∧ ∀ d ∈ ds, Any d
theorem AllT.nil {H : Hp} : AllT H [] := ⟨[], .nil, fun d h => absurd h List.not_mem_nil⟩
theorem AllT.cons {H : Hp} {v : V} {vs : List V} {d : PyData} (h : DpU (tpl H) v d) (k : Any d) : AllT H vs → AllT H (v :: vs)
  | ⟨ds, a, b⟩ => ⟨d :: ds, .cons h a, fun e he => by
    rcases List.mem_cons.mp he with rfl | he
    · exact k
    · exact b e he⟩
theorem AllT.app {H : Hp} {vs us : List V} : AllT H vs → AllT H us → AllT H (vs ++ us)
  | ⟨ds, a, b⟩, ⟨es, c, d⟩ => ⟨ds ++ es, a.app c, fun e he => (List.mem_append.mp he).elim (b e) (d e)⟩
theorem AllT.same {H H' : Hp} {vs : List V} (s : Same (tpl H) (tpl H')) : AllT H vs → AllT H' vs
  | ⟨ds, a, b⟩ => ⟨ds, a.same s, b⟩
theorem DpsU.rep {H : Hp} {xs : List V} {ds : List PyData} (h : DpsU H xs ds) : ∀ n : Nat, DpsU H (List.replicate n xs).flatten (List.replicate n ds).flatten
  | 0 => .nil
  | n + 1 => by
    rw [List.replicate_succ, List.replicate_succ, List.flatten_cons, List.flatten_cons]
    exact h.app (DpsU.rep h n)
def rowE : PyData := .tuple [.str "give", .tuple [.str "number", .int 0]]
/-- a work of the law's edges -/
def wkE (nm : List PyData) (r : PyData) (rs : List PyData) : PyData := .tuple [.str "work", .str "f", .tuple nm, r, .tuple rs]
def rowsE : Nat → List PyData
  | 0 => [rowE]
  | k + 1 => [.tuple [.str "if", .tuple [.str "name", .str "a"], .tuple (rowsE k), .tuple []]]
theorem any_put {d : PyData} (hp : Pl 100 8 5000 d) : Any (wkE [] (.int 3) [.tuple [.str "put", .str "x", d]]) := by
  have hd := hp.dep
  have hw := hp.w
  have gp : Pl 100 9 5100 (.tuple [.str "put", .str "x", d]) := by
    refine ⟨?_, ?_, ?_⟩
    · show (asc 100 (.str "put") && (asc 100 (.str "x") && (asc 100 d && true))) = true
      rw [hp.a]
      decide +kernel
    · show max 0 (max 0 (max d.depth 0)) + 1 ≤ 9
      omega
    · show 3 + (32 + 2 + (12 + 2 + (wt d + 2 + 0))) ≤ 5100
      omega
  generalize (PyData.tuple [.str "put", .str "x", d]) = g at gp ⊢
  have gd := gp.dep
  have gw := gp.w
  have gq : Pl 100 11 5500 (wkE [] (.int 3) [g]) := by
    refine ⟨?_, ?_, ?_⟩
    · show (asc 100 (.str "work") && (asc 100 (.str "f") && (true && (asc 100 (.int 3) && ((asc 100 g && true) && true))))) = true
      rw [gp.a]
      decide +kernel
    · show max 0 (max 0 (max (0 + 1) (max 0 (max (max g.depth 0 + 1) 0)))) + 1 ≤ 11
      omega
    · show 3 + (42 + 2 + (12 + 2 + (3 + 0 + 2 + (101 + 2 + (3 + (wt g + 2 + 0) + 2 + 0))))) ≤ 5500
      omega
  exact ⟨gq.shaped (by omega), Nat.le_trans gq.w (by omega)⟩
def nm5 : List Str := ["a", "b", "c", "d", "e"]
section
variable {P : Program} {w : World} {K : PySem.W.Frag} {mg : Str → Option Value} {base : Heap}
theorem ok_edges {f a1 : Addr} {fd d1 : FuncData} (F : Fun K "_law_edges" "_law_edges" sEdges f fd) (DE : Fk P w K mg base 1 "_law_deeper" a1 d1 ["_law_deep_here"] spDeeper) (T : Bi mg) : FnOk P w K mg base CX0 2 f fd [] spEdges := by
  refine F.ok scEdges (fun vs H Q E h => ?_) (fun cdv A outer s H vs Q E hr h => ?_)
  · obtain ⟨rfl, _⟩ := h
    rfl
  obtain ⟨rfl, q⟩ := h
  refine ⟨_, (pss_cons (ps_set (i := 0) scEdges.nd rfl (Or.inr rfl) (pe_tup (pa_cons pe_str (pa_cons (pe_tup (pa_cons pe_str (pa_cons pe_int pa_nil))) pa_nil))))
    (pss_cons (ps_setLc (i := 1) (own := [("_law_many", 2)]) (g := gName 2) (tt := tYes) (by rfl) scEdges.nd rfl rfl (sw_true rfl rfl rfl (by decide +kernel)) (pi_list (pe_lst (pa_cons pe_int (pa_cons pe_int (pa_cons pe_int pa_nil))))) (blkOk_by (own := [("_law_many", 2)]) (N := ["_law_row_here", "_law_some", "_law_many", "_law_rows_here", "_law_k", "_law_deep_here", "_law_names_here", "_law_number_here", "_law_trees"]) (sc := defScope sEdges) (by decide +kernel)) (fun _ _ _ _ _ => pg_name (i := 2) scEdges.nd rfl (Or.inl rfl)) (fun _ _ _ _ _ => pts_nil) (fun _ _ _ _ _ => (pe_tup (pa_cons pe_str (pa_cons pe_str (pa_cons (pe_tup pa_nil) (pa_cons pe_int (pa_cons (pe_op op_repX (pe_tup (pa_cons (pv 0) pa_nil)) (pv 2)) pa_nil))))))))
    (pss_cons (ps_set (i := 1) scEdges.nd rfl (Or.inl rfl) (pe_op op_cat (pv 1) (pe_lst (pa_cons (pe_tup (pa_cons pe_str (pa_cons pe_str (pa_cons (pe_tup pa_nil) (pa_cons pe_int (pa_cons (pe_tup (pa_cons (pv 0) pa_nil)) pa_nil)))))) (pa_cons (pe_tup (pa_cons pe_str (pa_cons pe_str (pa_cons (pe_tup pa_nil) (pa_cons pe_bl (pa_cons (pe_tup (pa_cons (pv 0) pa_nil)) pa_nil)))))) (pa_cons (pe_tup (pa_cons pe_str (pa_cons pe_str (pa_cons (pe_tup pa_nil) (pa_cons pe_bl (pa_cons (pe_op op_repX (pe_tup (pa_cons (pv 0) pa_nil)) pe_int) pa_nil)))))) pa_nil))))))
    (pss_cons (ps_set (i := 3) scEdges.nd rfl (Or.inl rfl) (pe_tup (pa_cons (pv 0) pa_nil)))
    (pss_cons (ps_for PassesOwn.never rfl (pi_range1 (by rfl) T.range (pa_cons pe_int pa_nil)) (pg_name (i := 4) scEdges.nd rfl (.inl rfl))
      (pss_cons (ps_set (i := 3) scEdges.nd rfl (Or.inl rfl) (pe_tup (pa_cons (pe_tup (pa_cons pe_str (pa_cons (pe_tup (pa_cons pe_str (pa_cons pe_str pa_nil))) (pa_cons (pv 3) (pa_cons (pe_tup pa_nil) pa_nil))))) pa_nil)))
    (pss_one (ps_expr (pe_bm PySem.F.plainAttrs_list PySem.F.slot_list_append PySem.F.type_list_append mt_append (pv 1) (pa_cons (pe_tup (pa_cons pe_str (pa_cons pe_str (pa_cons (pe_tup (pa_cons pe_str pa_nil)) (pa_cons pe_int (pa_cons (pe_op op_catA (pv 3) (pe_tup (pa_cons (pv 0) pa_nil))) pa_nil)))))) pa_nil))))))
    (pss_cons (ps_set (i := 1) scEdges.nd rfl (Or.inl rfl) (pe_op op_cat (pv 1) (pe_lc (own := [("_law_deep_here", 5)]) (g := gName 5) (tt := tYes) (by rfl) scEdges.nd (pi_list (pe_lst (pa_cons pe_int (pa_cons pe_int (pa_cons pe_int pa_nil))))) (blkOk_by (own := [("_law_deep_here", 5)]) (N := ["_law_row_here", "_law_some", "_law_many", "_law_rows_here", "_law_k", "_law_deep_here", "_law_names_here", "_law_number_here", "_law_trees"]) (sc := defScope sEdges) (by decide +kernel)) (fun _ _ _ _ _ => pg_name (i := 5) scEdges.nd rfl (Or.inl rfl)) (fun _ _ _ _ _ => pts_nil) (fun _ _ _ _ _ => (pe_tup (pa_cons pe_str (pa_cons pe_str (pa_cons (pe_tup pa_nil) (pa_cons pe_int (pa_cons (pe_tup (pa_cons (pe_tup (pa_cons pe_str (pa_cons pe_str (pa_cons (pe_call DE.G (hr.mono (by omega)) (by rfl) DE.m DE.k DE.b .nil pass0 (pa_cons (pv 5) pa_nil)) pa_nil)))) pa_nil)) pa_nil))))))))))
    (pss_cons (ps_set (i := 6) scEdges.nd rfl (Or.inr rfl) (pe_tup (pa_cons pe_str (pa_cons pe_str (pa_cons pe_str (pa_cons pe_str (pa_cons pe_str pa_nil)))))))
    (pss_cons (ps_set (i := 1) scEdges.nd rfl (Or.inl rfl) (pe_op op_cat (pv 1) (pe_lc (own := [("_law_many", 2)]) (g := gName 2) (tt := tYes) (by rfl) scEdges.nd (pi_list (pe_lst (pa_cons pe_int (pa_cons pe_int (pa_cons pe_int (pa_cons pe_int pa_nil)))))) (blkOk_by (own := [("_law_many", 2)]) (N := ["_law_row_here", "_law_some", "_law_many", "_law_rows_here", "_law_k", "_law_deep_here", "_law_names_here", "_law_number_here", "_law_trees"]) (sc := defScope sEdges) (by decide +kernel)) (fun _ _ _ _ _ => pg_name (i := 2) scEdges.nd rfl (Or.inl rfl)) (fun _ _ _ _ _ => pts_nil) (fun _ _ _ _ _ => (pe_tup (pa_cons pe_str (pa_cons pe_str (pa_cons (pe_slice (sl_tupAK K) (pv 6) po_none (po_some (pv 2))) (pa_cons (pe_op op_sub pe_int (pv 2)) (pa_cons (pe_tup pa_nil) pa_nil))))))))))
    (pss_cons (ps_set (i := 1) scEdges.nd rfl (Or.inl rfl) (pe_op op_cat (pv 1) (pe_lst (pa_cons (pe_tup (pa_cons pe_str (pa_cons pe_str (pa_cons (pe_tup (pa_cons pe_str (pa_cons pe_str (pa_cons pe_str pa_nil)))) (pa_cons pe_int (pa_cons (pe_tup pa_nil) pa_nil)))))) (pa_cons (pe_tup (pa_cons pe_str (pa_cons pe_str (pa_cons (pe_tup pa_nil) (pa_cons pe_int (pa_cons (pe_tup pa_nil) pa_nil)))))) (pa_cons (pe_tup (pa_cons pe_str (pa_cons pe_str (pa_cons (pe_tup pa_nil) (pa_cons pe_int (pa_cons (pe_tup pa_nil) pa_nil)))))) pa_nil))))))
    (pss_cons (ps_for PassesOwn.never rfl (pi_list (pe_lst (pa_cons (pe_op op_sub (pe_op op_pow pe_int pe_int) pe_int) (pa_cons (pe_op op_pow pe_int pe_int) (pa_cons (pe_un un_neg pe_int) (pa_cons pe_bl pa_nil)))))) (pg_name (i := 7) scEdges.nd rfl (.inl rfl))
      (pss_one (ps_expr (pe_bm PySem.F.plainAttrs_list PySem.F.slot_list_append PySem.F.type_list_append mt_append (pv 1) (pa_cons (pe_tup (pa_cons pe_str (pa_cons pe_str (pa_cons (pe_tup pa_nil) (pa_cons pe_int (pa_cons (pe_tup (pa_cons (pe_tup (pa_cons pe_str (pa_cons (pe_tup (pa_cons pe_str (pa_cons (pv 7) pa_nil))) pa_nil))) pa_nil)) pa_nil)))))) pa_nil)))))
    (pss_cons (ps_set (i := 8) scEdges.nd rfl (Or.inr rfl) (pe_op op_repX (pe_tup (pa_cons (pe_tup (pa_cons pe_str (pa_cons pe_int pa_nil))) pa_nil)) pe_int))
    (pss_cons (ps_set (i := 1) scEdges.nd rfl (Or.inl rfl) (pe_op op_cat (pv 1) (pe_lc (own := [("_law_many", 2)]) (g := gName 2) (tt := tYes) (by rfl) scEdges.nd (pi_list (pe_lst (pa_cons pe_int (pa_cons pe_int (pa_cons pe_int pa_nil))))) (blkOk_by (own := [("_law_many", 2)]) (N := ["_law_row_here", "_law_some", "_law_many", "_law_rows_here", "_law_k", "_law_deep_here", "_law_names_here", "_law_number_here", "_law_trees"]) (sc := defScope sEdges) (by decide +kernel)) (fun _ _ _ _ _ => pg_name (i := 2) scEdges.nd rfl (Or.inl rfl)) (fun _ _ _ _ _ => pts_nil) (fun _ _ _ _ _ => (pe_tup (pa_cons pe_str (pa_cons pe_str (pa_cons (pe_tup pa_nil) (pa_cons pe_int (pa_cons (pe_tup (pa_cons (pe_tup (pa_cons pe_str (pa_cons pe_str (pa_cons pe_str (pa_cons (pe_slice (sl_tupAK K) (pv 8) po_none (po_some (pv 2))) pa_nil))))) pa_nil)) pa_nil))))))))))
    (pss_one (ps_ret (pe_op op_cat (pv 1) (pe_lc (own := [("_law_many", 2)]) (g := gName 2) (tt := tYes) (by rfl) scEdges.nd (pi_list (pe_lst (pa_cons pe_int (pa_cons pe_int pa_nil)))) (blkOk_by (own := [("_law_many", 2)]) (N := ["_law_row_here", "_law_some", "_law_many", "_law_rows_here", "_law_k", "_law_deep_here", "_law_names_here", "_law_number_here", "_law_trees"]) (sc := defScope sEdges) (by decide +kernel)) (fun _ _ _ _ _ => pg_name (i := 2) scEdges.nd rfl (Or.inl rfl)) (fun _ _ _ _ _ => pts_nil) (fun _ _ _ _ _ => (pe_tup (pa_cons pe_str (pa_cons pe_str (pa_cons (pe_tup pa_nil) (pa_cons pe_int (pa_cons (pe_tup (pa_cons (pe_tup (pa_cons pe_str (pa_cons (pe_tup (pa_cons pe_str (pa_cons pe_int pa_nil))) (pa_cons (pe_op op_repX (pe_tup (pa_cons (pv 0) pa_nil)) pe_int) (pa_cons (pe_op op_repX (pe_tup (pa_cons (pv 0) pa_nil)) (pv 2)) pa_nil))))) pa_nil)) pa_nil))))))))))))))))))))))), ?_⟩
  have hs : sizeLine = 16777216 := by decide
  -- the row
  refine ⟨(by show 2 ≤ sizeLine; decide), fun r0 nr0 => ?_⟩
  have s1 := same_new nr0 (.tup [V.str "number", .int 0])
  have e0 := upd_same (H := H) (a := r0) (o := .tup [V.str "number", .int 0])
  generalize upd H r0 (.tup [V.str "number", .int 0]) = H1 at s1 e0 ⊢
  refine ⟨(by show 2 ≤ sizeLine; decide), fun r1 nr1 => ?_⟩
  have s2 := same_new nr1 (.tup [V.str "give", .ref r0])
  have e1 := upd_same (H := H1) (a := r1) (o := .tup [V.str "give", .ref r0])
  generalize upd H1 r1 (.tup [V.str "give", .ref r0]) = H2 at s2 e1 ⊢
  have hrow : DpU (tpl H2) (.ref r1) rowE := .tup (tpl_at e1) (.cons (.str _) (.cons (.tup (tpl_at (s2 _ _ e0)) (.cons (.str _) (.cons (.int _) .nil))) .nil))
  have S2 := s1.trans s2
  -- works of so many rows
  refine ⟨(by show 3 ≤ sizeLine; decide), fun l1 nl1 => ?_⟩
  have s3 := same_new nl1 (.lst [V.int 0, .int 40, .int 41])
  have e3 := upd_same (H := H2) (a := l1) (o := .lst [V.int 0, .int 40, .int 41])
  generalize upd H2 l1 (.lst [V.int 0, .int 40, .int 41]) = H3 at s3 e3 ⊢
  have S3 := S2.trans s3
  have hrow3 := hrow.same (tpl_keep s3)
  refine ⟨l1, rfl, ⟨_, SqL.of e3⟩, ?_⟩
  intro C hC
  refine lc_list (K := K) (a := l1) (xs := [V.int 0, .int 40, .int 41]) (fun j H' => ∃ ws : List V, H' C = some (.lst ws) ∧ ws.length = j ∧ AllT H' ws ∧ Same H3 H') ⟨[], upd_same, rfl, .nil, same_new hC _⟩ (fun j H' _ h => SqL.of (h.choose_spec.2.2.2 _ _ e3)) ?_ ?_
  · rintro j v H4 hv ⟨ws, hC4, lj, hW, s4⟩
    have hj : j < 3 := (List.getElem?_eq_some_iff.mp hv).1
    obtain ⟨n, rfl, hn⟩ : ∃ n : Nat, v = .int (n : Nat) ∧ (n = 0 ∨ n = 40 ∨ n = 41) := by
      match j, hv with
      | 0, hv => cases hv; exact ⟨0, rfl, .inl rfl⟩
      | 1, hv => cases hv; exact ⟨40, rfl, .inr (.inl rfl)⟩
      | 2, hv => cases hv; exact ⟨41, rfl, .inr (.inr rfl)⟩
      | k + 3, hv => cases hv
    refine ⟨rfl, ?_⟩
    refine ⟨(by show 0 ≤ sizeLine; decide), fun a0 na0 => ?_⟩
    have t1 := same_new na0 (.tup [])
    have f1 := upd_same (H := H4) (a := a0) (o := .tup [])
    generalize upd H4 a0 (.tup []) = H5 at t1 f1 ⊢
    refine ⟨_, rfl, (by show 1 ≤ sizeLine; decide), fun a1 na1 => ?_⟩
    have t2 := same_new na1 (.tup [V.ref r1])
    have f2 := upd_same (H := H5) (a := a1) (o := .tup [V.ref r1])
    generalize upd H5 a1 (.tup [V.ref r1]) = H6 at t2 f2 ⊢
    refine ⟨_, rfl, a1, n, _, rfl, rfl, f2, (fun z => by cases z), (by show 1 ≤ 1000; omega), by omega, fun a2 H7 t3 _ f3 => ?_⟩
    refine ⟨(by show 5 ≤ sizeLine; decide), fun a3 na3 => ?_⟩
    have t4 := same_new na3 (.tup [V.str "work", .str "f", .ref a0, .int 0, .ref a2])
    have f4 := upd_same (H := H7) (a := a3) (o := .tup [V.str "work", .str "f", .ref a0, .int 0, .ref a2])
    generalize upd H7 a3 (.tup [V.str "work", .str "f", .ref a0, .int 0, .ref a2]) = H8 at t4 f4 ⊢
    have t48 := t1.trans (t2.trans (t3.trans t4))
    have hC8 := t48 _ _ hC4
    have hrow8 := hrow3.same (tpl_keep (s4.trans t48))
    have rows8 := DpsU.rep (.cons hrow8 .nil) n
    have g : DpU (tpl H8) (.ref a3) (wkE [] (.int 0) (List.replicate n [rowE]).flatten) := .tup (tpl_at f4) (.cons (.str _) (.cons (.str _) (.cons (.tup (tpl_at ((t2.trans (t3.trans t4)) _ _ f1)) .nil) (.cons (.int _) (.cons (.tup (tpl_at (t4 _ _ f3)) rows8) .nil)))))
    have ga : Any (wkE [] (.int 0) (List.replicate n [rowE]).flatten) := by rcases hn with rfl | rfl | rfl <;> exact anyB_any (by decide +kernel)
    refine ⟨ws, hC8, by omega, ws ++ [.ref a3], upd_same, by rw [List.length_append, lj]; rfl, ((hW.same (tpl_keep t48)).app (.cons g ga .nil)).same (tpl_upd hC8), fun x o z => ?_⟩
    rw [upd_ne (ne_of_none z hC)]
    exact t48 _ _ (s4 _ _ z)
  rintro H4 ⟨ws, hC4, l3, hW, s4⟩
  refine ⟨_, rfl, (by show 0 ≤ sizeLine; decide), fun x1 nx1 => ?_⟩
  have u5 := same_new nx1 (.tup [])
  have ex1 := upd_same (H := H4) (a := x1) (o := (.tup []))
  generalize upd H4 x1 (.tup []) = H5 at u5 ex1 ⊢
  refine ⟨_, rfl, (by show 1 ≤ sizeLine; decide), fun x2 nx2 => ?_⟩
  have u6 := same_new nx2 (.tup [V.ref r1])
  have ex2 := upd_same (H := H5) (a := x2) (o := (.tup [V.ref r1]))
  generalize upd H5 x2 (.tup [V.ref r1]) = H6 at u6 ex2 ⊢
  refine ⟨(by show 5 ≤ sizeLine; decide), fun x3 nx3 => ?_⟩
  have u7 := same_new nx3 (.tup [V.str "work", .str "f", .ref x1, .int 1, .ref x2])
  have ex3 := upd_same (H := H6) (a := x3) (o := (.tup [V.str "work", .str "f", .ref x1, .int 1, .ref x2]))
  generalize upd H6 x3 (.tup [V.str "work", .str "f", .ref x1, .int 1, .ref x2]) = H7 at u7 ex3 ⊢
  refine ⟨(by show 0 ≤ sizeLine; decide), fun x4 nx4 => ?_⟩
  have u8 := same_new nx4 (.tup [])
  have ex4 := upd_same (H := H7) (a := x4) (o := (.tup []))
  generalize upd H7 x4 (.tup []) = H8 at u8 ex4 ⊢
  refine ⟨_, rfl, (by show 1 ≤ sizeLine; decide), fun x5 nx5 => ?_⟩
  have u9 := same_new nx5 (.tup [V.ref r1])
  have ex5 := upd_same (H := H8) (a := x5) (o := (.tup [V.ref r1]))
  generalize upd H8 x5 (.tup [V.ref r1]) = H9 at u9 ex5 ⊢
  refine ⟨(by show 5 ≤ sizeLine; decide), fun x6 nx6 => ?_⟩
  have u10 := same_new nx6 (.tup [V.str "work", .str "f", .ref x4, .bl true, .ref x5])
  have ex6 := upd_same (H := H9) (a := x6) (o := (.tup [V.str "work", .str "f", .ref x4, .bl true, .ref x5]))
  generalize upd H9 x6 (.tup [V.str "work", .str "f", .ref x4, .bl true, .ref x5]) = H10 at u10 ex6 ⊢
  refine ⟨(by show 0 ≤ sizeLine; decide), fun x7 nx7 => ?_⟩
  have u11 := same_new nx7 (.tup [])
  have ex7 := upd_same (H := H10) (a := x7) (o := (.tup []))
  generalize upd H10 x7 (.tup []) = H11 at u11 ex7 ⊢
  refine ⟨_, rfl, (by show 1 ≤ sizeLine; decide), fun x8 nx8 => ?_⟩
  have u12 := same_new nx8 (.tup [V.ref r1])
  have ex8 := upd_same (H := H11) (a := x8) (o := (.tup [V.ref r1]))
  generalize upd H11 x8 (.tup [V.ref r1]) = H12 at u12 ex8 ⊢
  refine ⟨x8, 40, _, rfl, rfl, ex8, (fun z => by cases z), (by show 1 ≤ 1000; omega), by omega, fun x40 H13 u13 _ ex40 => ?_⟩
  refine ⟨(by show 5 ≤ sizeLine; decide), fun x9 nx9 => ?_⟩
  have u14 := same_new nx9 (.tup [V.str "work", .str "f", .ref x7, .bl false, .ref x40])
  have ex9 := upd_same (H := H13) (a := x9) (o := (.tup [V.str "work", .str "f", .ref x7, .bl false, .ref x40]))
  generalize upd H13 x9 (.tup [V.str "work", .str "f", .ref x7, .bl false, .ref x40]) = H14 at u14 ex9 ⊢
  refine ⟨(by show 3 ≤ sizeLine; decide), fun x10 nx10 => ?_⟩
  have u15 := same_new nx10 (.lst [V.ref x3, V.ref x6, V.ref x9])
  have ex10 := upd_same (H := H14) (a := x10) (o := (.lst [V.ref x3, V.ref x6, V.ref x9]))
  generalize upd H14 x10 (.lst [V.ref x3, V.ref x6, V.ref x9]) = H15 at u15 ex10 ⊢
  have uA := u5.trans (u6.trans (u7.trans (u8.trans (u9.trans (u10.trans (u11.trans (u12.trans (u13.trans (u14.trans (u15))))))))))
  have hC15 := uA _ _ hC4
  have rowN := hrow3.same (tpl_keep (s4.trans uA))
  have gA : DpU (tpl H15) (.ref x3) (wkE [] (.int 1) [rowE]) := .tup (tpl_at ((u8.trans (u9.trans (u10.trans (u11.trans (u12.trans (u13.trans (u14.trans (u15)))))))) _ _ ex3)) (.cons (.str _) (.cons (.str _) (.cons (.tup (tpl_at ((u6.trans (u7.trans (u8.trans (u9.trans (u10.trans (u11.trans (u12.trans (u13.trans (u14.trans (u15)))))))))) _ _ ex1)) .nil) (.cons (.int _) (.cons (.tup (tpl_at ((u7.trans (u8.trans (u9.trans (u10.trans (u11.trans (u12.trans (u13.trans (u14.trans (u15))))))))) _ _ ex2)) (.cons rowN .nil)) .nil)))))
  have gB : DpU (tpl H15) (.ref x6) (wkE [] (.bool true) [rowE]) := .tup (tpl_at ((u11.trans (u12.trans (u13.trans (u14.trans (u15))))) _ _ ex6)) (.cons (.str _) (.cons (.str _) (.cons (.tup (tpl_at ((u9.trans (u10.trans (u11.trans (u12.trans (u13.trans (u14.trans (u15))))))) _ _ ex4)) .nil) (.cons (.bl _) (.cons (.tup (tpl_at ((u10.trans (u11.trans (u12.trans (u13.trans (u14.trans (u15)))))) _ _ ex5)) (.cons rowN .nil)) .nil)))))
  have gC : DpU (tpl H15) (.ref x9) (wkE [] (.bool false) (List.replicate 40 [rowE]).flatten) := .tup (tpl_at ((u15) _ _ ex9)) (.cons (.str _) (.cons (.str _) (.cons (.tup (tpl_at ((u12.trans (u13.trans (u14.trans (u15)))) _ _ ex7)) .nil) (.cons (.bl _) (.cons (.tup (tpl_at ((u14.trans (u15)) _ _ ex40)) (DpsU.rep (.cons rowN .nil) 40)) .nil)))))
  have AN : AllT H15 (ws ++ [V.ref x3, V.ref x6, V.ref x9]) := (hW.same (tpl_keep uA)).app (.cons gA (anyB_any (by decide +kernel)) (.cons gB (anyB_any (by decide +kernel)) (.cons gC (anyB_any (by decide +kernel)) .nil)))
  refine ⟨C, x10, _, _, rfl, rfl, hC15, ex10, (by rw [l3, hs]; show 3 + 3 ≤ 16777216; omega), fun xS nxS => ?_⟩
  have v1 := same_new nxS (.lst (ws ++ [V.ref x3, V.ref x6, V.ref x9]))
  have g1 := upd_same (H := H15) (a := xS) (o := .lst (ws ++ [V.ref x3, V.ref x6, V.ref x9]))
  generalize upd H15 xS (.lst (ws ++ [V.ref x3, V.ref x6, V.ref x9])) = J1 at v1 g1 ⊢
  refine ⟨_, rfl, (by show 1 ≤ sizeLine; decide), fun pr0 npr0 => ?_⟩
  have v2 := same_new npr0 (.tup [V.ref r1])
  have g2 := upd_same (H := J1) (a := pr0) (o := .tup [V.ref r1])
  generalize upd J1 pr0 (.tup [V.ref r1]) = J2 at v2 g2 ⊢
  have v12 := v1.trans v2
  have lz : (ws ++ [V.ref x3, V.ref x6, V.ref x9]).length = 6 := by rw [List.length_append, l3]; rfl
  have rowJ := rowN.same (tpl_keep v12)
  have SJ : Same H J2 := S3.trans (s4.trans (uA.trans v12))
  refine ⟨_, rfl, by decide, by decide, ?_⟩
  refine for_range (lo := 0) (n := 4) (fun j σ H' => ∃ (zs : List V) (pr : Addr) (rs : List V) (y : Option V), σ = [some (.ref r1), some (.ref xS), none, some (.ref pr), y, none, none, none, none] ∧ H' xS = some (.lst zs) ∧ zs.length = 6 + j ∧ AllT H' zs ∧ H' pr = some (.tup rs) ∧ DpsU (tpl H') rs (rowsE j) ∧ (∀ a o, a ≠ xS → J2 a = some o → H' a = some o)) ?_ ?_ ?_
  · exact ⟨_, pr0, _, none, rfl, v2 _ _ g1, lz, AN.same (tpl_keep v12), g2, .cons rowJ .nil, fun a o _ e => e⟩
  · rintro j σ K1 hj ⟨zs, pr, rs, y, rfl, hzs, lzs, hZ, hpr, hR, keep⟩
    refine ⟨(by show 2 ≤ sizeLine; decide), fun y1 ny1 => ?_⟩
    have w2 := same_new ny1 (.tup [V.str "name", .str "a"])
    have ey1 := upd_same (H := K1) (a := y1) (o := (.tup [V.str "name", .str "a"]))
    generalize upd K1 y1 (.tup [V.str "name", .str "a"]) = K2 at w2 ey1 ⊢
    refine ⟨_, rfl, (by show 0 ≤ sizeLine; decide), fun y2 ny2 => ?_⟩
    have w3 := same_new ny2 (.tup [])
    have ey2 := upd_same (H := K2) (a := y2) (o := (.tup []))
    generalize upd K2 y2 (.tup []) = K3 at w3 ey2 ⊢
    refine ⟨(by show 4 ≤ sizeLine; decide), fun y3 ny3 => ?_⟩
    have w4 := same_new ny3 (.tup [V.str "if", .ref y1, .ref pr, .ref y2])
    have ey3 := upd_same (H := K3) (a := y3) (o := (.tup [V.str "if", .ref y1, .ref pr, .ref y2]))
    generalize upd K3 y3 (.tup [V.str "if", .ref y1, .ref pr, .ref y2]) = K4 at w4 ey3 ⊢
    refine ⟨(by show 1 ≤ sizeLine; decide), fun y4 ny4 => ?_⟩
    have w5 := same_new ny4 (.tup [V.ref y3])
    have ey4 := upd_same (H := K4) (a := y4) (o := (.tup [V.ref y3]))
    generalize upd K4 y4 (.tup [V.ref y3]) = K5 at w5 ey4 ⊢
    refine ⟨_, rfl, .inl ⟨rfl, _, SqL.of ((w2.trans (w3.trans (w4.trans w5))) _ _ hzs)⟩, (by show 1 ≤ sizeLine; decide), fun y5 ny5 => ?_⟩
    have w6 := same_new ny5 (.tup [V.str "a"])
    have ey5 := upd_same (H := K5) (a := y5) (o := (.tup [V.str "a"]))
    generalize upd K5 y5 (.tup [V.str "a"]) = K6 at w6 ey5 ⊢
    refine ⟨_, rfl, _, rfl, (by show 1 ≤ sizeLine; decide), fun y6 ny6 => ?_⟩
    have w7 := same_new ny6 (.tup [V.ref r1])
    have ey6 := upd_same (H := K6) (a := y6) (o := (.tup [V.ref r1]))
    generalize upd K6 y6 (.tup [V.ref r1]) = K7 at w7 ey6 ⊢
    refine catA (S := []) (fun a h => absurd h List.not_mem_nil) List.not_mem_nil List.not_mem_nil ((w6.trans w7) _ _ ey4) ey6 (by show 1 + 1 ≤ sizeLine; decide) fun y7 K8 w8 _ ey7 => ?_
    refine ⟨(by show 5 ≤ sizeLine; decide), fun y8 ny8 => ?_⟩
    have w9 := same_new ny8 (.tup [V.str "work", .str "f", .ref y5, .int 1000, .ref y7])
    have ey8 := upd_same (H := K8) (a := y8) (o := (.tup [V.str "work", .str "f", .ref y5, .int 1000, .ref y7]))
    generalize upd K8 y8 (.tup [V.str "work", .str "f", .ref y5, .int 1000, .ref y7]) = K9 at w9 ey8 ⊢
    have wA := (w2.trans (w3.trans (w4.trans (w5.trans (w6.trans (w7.trans (w8.trans w9)))))))
    have hz9 := wA _ _ hzs
    have rowK : DpU (tpl K9) (.ref r1) rowE := by
      have er : K1 r1 = some (.tup [V.str "give", .ref r0]) := keep _ _ (fun z => by have := (s3.trans (s4.trans uA)) _ _ e1; rw [z, nxS] at this; cases this) ((s3.trans (s4.trans (uA.trans v12))) _ _ e1)
      have er0 : K1 r0 = some (.tup [V.str "number", .int 0]) := keep _ _ (fun z => by have := (s2.trans (s3.trans (s4.trans uA))) _ _ e0; rw [z, nxS] at this; cases this) ((s2.trans (s3.trans (s4.trans (uA.trans v12)))) _ _ e0)
      exact .tup (tpl_at (wA _ _ er)) (.cons (.str _) (.cons (.tup (tpl_at (wA _ _ er0)) (.cons (.str _) (.cons (.int _) .nil))) .nil))
    have gR : DpsU (tpl K9) [V.ref y3] (rowsE (j + 1)) := .cons (.tup (tpl_at ((w5.trans (w6.trans (w7.trans (w8.trans w9)))) _ _ ey3)) (.cons (.str _) (.cons (.tup (tpl_at ((w3.trans (w4.trans (w5.trans (w6.trans (w7.trans (w8.trans w9)))))) _ _ ey1)) (.cons (.str _) (.cons (.str _) .nil))) (.cons (.tup (tpl_at (wA _ _ hpr)) (hR.same (tpl_keep wA))) (.cons (.tup (tpl_at ((w4.trans (w5.trans (w6.trans (w7.trans (w8.trans w9))))) _ _ ey2)) .nil) .nil))))) .nil
    have gW : DpU (tpl K9) (.ref y8) (wkE [.str "a"] (.int 1000) (rowsE (j + 1) ++ [rowE])) := .tup (tpl_at ey8) (.cons (.str _) (.cons (.str _) (.cons (.tup (tpl_at ((w7.trans (w8.trans w9)) _ _ ey5)) (.cons (.str _) .nil)) (.cons (.int _) (.cons (.tup (tpl_at (w9 _ _ ey7)) (gR.app (.cons rowK .nil))) .nil)))))
    have ga : Any (wkE [.str "a"] (.int 1000) (rowsE (j + 1) ++ [rowE])) := by
      match j, hj with
      | 0, _ => exact anyB_any (by decide +kernel)
      | 1, _ => exact anyB_any (by decide +kernel)
      | 2, _ => exact anyB_any (by decide +kernel)
      | 3, _ => exact anyB_any (by decide +kernel)
    refine ⟨xS, zs, _, rfl, rfl, hz9, (by rw [lzs]; omega), ?_⟩
    refine ⟨zs ++ [.ref y8], y4, _, _, rfl, upd_same, by rw [List.length_append, lzs]; rfl, ((hZ.same (tpl_keep wA)).app (.cons gW ga .nil)).same (tpl_upd hz9), ?_, gR.same (tpl_upd hz9), fun a o na e => ?_⟩
    · rw [upd_ne (fun z => by have := ((w6.trans (w7.trans (w8.trans w9))) _ _ ey4); rw [z, hz9] at this; cases this)]
      exact ((w6.trans (w7.trans (w8.trans w9))) _ _ ey4)
    · rw [upd_ne na]
      exact wA _ _ (keep _ _ na e)
  rintro σ K1 ⟨zs, pr, rs, y, rfl, hzs, lzs, hZ, hpr, hR, keep⟩
  -- trees of some depths
  have SK : Same H K1 := fun a o e => keep _ _ (fun z => by have := (S3.trans (s4.trans uA)) _ _ e; rw [z, nxS] at this; cases this) (SJ _ _ e)
  refine ⟨_, rfl, (by show 3 ≤ sizeLine; decide), fun l2 nl2 => ?_⟩
  have c1 := same_new nl2 (.lst [V.int 1, .int 6, .int 7])
  have d1 := upd_same (H := K1) (a := l2) (o := .lst [V.int 1, .int 6, .int 7])
  generalize upd K1 l2 (.lst [V.int 1, .int 6, .int 7]) = M1 at c1 d1 ⊢
  refine ⟨l2, rfl, ⟨_, SqL.of d1⟩, ?_⟩
  intro C2 hC2
  refine lc_list (K := K) (a := l2) (xs := [V.int 1, .int 6, .int 7]) (fun j H' => ∃ ws : List V, H' C2 = some (.lst ws) ∧ ws.length = j ∧ AllT H' ws ∧ Same M1 H') ⟨[], upd_same, rfl, .nil, same_new hC2 _⟩ (fun j H' _ h => SqL.of (h.choose_spec.2.2.2 _ _ d1)) ?_ ?_
  · rintro j v H4 hv ⟨ws, hC4, lj, hW, s4⟩
    have hj : j < 3 := (List.getElem?_eq_some_iff.mp hv).1
    obtain ⟨n, rfl, hn1, hn7⟩ : ∃ n : Nat, v = .int (n : Nat) ∧ 1 ≤ n ∧ n ≤ 7 := by
      match j, hv with
      | 0, hv => cases hv; exact ⟨1, rfl, by decide, by decide⟩
      | 1, hv => cases hv; exact ⟨6, rfl, by decide, by decide⟩
      | 2, hv => cases hv; exact ⟨7, rfl, by decide, by decide⟩
      | k + 3, hv => cases hv
    refine ⟨rfl, ?_⟩
    refine ⟨(by show 0 ≤ sizeLine; decide), fun a0 na0 => ?_⟩
    have t1 := same_new na0 (.tup [])
    have f1 := upd_same (H := H4) (a := a0) (o := .tup [])
    generalize upd H4 a0 (.tup []) = H5 at t1 f1 ⊢
    refine ⟨_, rfl, n, rfl, hn1, hn7, fun vd d H6 t2 hv2 hp2 => ?_⟩
    refine ⟨(by show 3 ≤ sizeLine; decide), fun a1 na1 => ?_⟩
    have t3 := same_new na1 (.tup [V.str "put", .str "x", vd])
    have f3 := upd_same (H := H6) (a := a1) (o := .tup [V.str "put", .str "x", vd])
    generalize upd H6 a1 (.tup [V.str "put", .str "x", vd]) = H7 at t3 f3 ⊢
    refine ⟨(by show 1 ≤ sizeLine; decide), fun a2 na2 => ?_⟩
    have t4 := same_new na2 (.tup [V.ref a1])
    have f4 := upd_same (H := H7) (a := a2) (o := .tup [V.ref a1])
    generalize upd H7 a2 (.tup [V.ref a1]) = H8 at t4 f4 ⊢
    refine ⟨(by show 5 ≤ sizeLine; decide), fun a3 na3 => ?_⟩
    have t5 := same_new na3 (.tup [V.str "work", .str "f", .ref a0, .int 3, .ref a2])
    have f5 := upd_same (H := H8) (a := a3) (o := .tup [V.str "work", .str "f", .ref a0, .int 3, .ref a2])
    generalize upd H8 a3 (.tup [V.str "work", .str "f", .ref a0, .int 3, .ref a2]) = H9 at t5 f5 ⊢
    have t49 := t1.trans (t2.trans (t3.trans (t4.trans t5)))
    have hC9 := t49 _ _ hC4
    have g : DpU (tpl H9) (.ref a3) (wkE [] (.int 3) [.tuple [.str "put", .str "x", d]]) := .tup (tpl_at f5) (.cons (.str _) (.cons (.str _) (.cons (.tup (tpl_at ((t2.trans (t3.trans (t4.trans t5))) _ _ f1)) .nil) (.cons (.int _) (.cons (.tup (tpl_at (t5 _ _ f4)) (.cons (.tup (tpl_at ((t4.trans t5) _ _ f3)) (.cons (.str _) (.cons (.str _) (.cons (hv2.same (tpl_keep (t3.trans (t4.trans t5)))) .nil)))) .nil)) .nil)))))
    refine ⟨ws, hC9, by omega, ws ++ [.ref a3], upd_same, by rw [List.length_append, lj]; rfl, ((hW.same (tpl_keep t49)).app (.cons g (any_put hp2) .nil)).same (tpl_upd hC9), fun x o z => ?_⟩
    rw [upd_ne (ne_of_none z hC2)]
    exact t49 _ _ (s4 _ _ z)
  rintro M2 ⟨ws2, hC4b, l3b, hW2, c2⟩
  have lz10 : zs.length = 10 := lzs
  have rowM : DpU (tpl M2) (.ref r1) rowE := by
    have k : Same K1 M2 := c1.trans c2
    have er : K1 r1 = some (.tup [V.str "give", .ref r0]) := keep _ _ (fun z => by have := (s3.trans (s4.trans uA)) _ _ e1; rw [z, nxS] at this; cases this) ((s3.trans (s4.trans (uA.trans v12))) _ _ e1)
    have er0 : K1 r0 = some (.tup [V.str "number", .int 0]) := keep _ _ (fun z => by have := (s2.trans (s3.trans (s4.trans uA))) _ _ e0; rw [z, nxS] at this; cases this) ((s2.trans (s3.trans (s4.trans (uA.trans v12)))) _ _ e0)
    exact .tup (tpl_at (k _ _ er)) (.cons (.str _) (.cons (.tup (tpl_at (k _ _ er0)) (.cons (.str _) (.cons (.int _) .nil))) .nil))
  have ZM := (hZ.same (tpl_keep (c1.trans c2))).app hW2
  refine ⟨xS, C2, _, _, rfl, rfl, (c1.trans c2) _ _ hzs, hC4b, (by rw [lz10, l3b, hs]; show 10 + 3 ≤ 16777216; omega), fun xT nxT => ?_⟩
  have b1 := same_new nxT (.lst (zs ++ ws2))
  have h1 := upd_same (H := M2) (a := xT) (o := .lst (zs ++ ws2))
  generalize upd M2 xT (.lst (zs ++ ws2)) = P1 at b1 h1 ⊢
  -- names
  refine ⟨(by show 5 ≤ sizeLine; decide), fun pn npn => ?_⟩
  have b2 := same_new npn (.tup (nm5.map V.str))
  have h2 : (upd P1 pn (.tup (nm5.map V.str))) pn = some (.tup (nm5.map V.str)) := upd_same
  change gName _ _ _ (upd P1 pn (.tup (nm5.map V.str))) _
  generalize upd P1 pn (.tup (nm5.map V.str)) = P2 at b2 h2 ⊢
  refine ⟨_, rfl, (by show 4 ≤ sizeLine; decide), fun l4 nl4 => ?_⟩
  have b3 := same_new nl4 (.lst [V.int 0, .int 1, .int 4, .int 5])
  have h3 := upd_same (H := P2) (a := l4) (o := .lst [V.int 0, .int 1, .int 4, .int 5])
  generalize upd P2 l4 (.lst [V.int 0, .int 1, .int 4, .int 5]) = P3 at b3 h3 ⊢
  refine ⟨l4, rfl, ⟨_, SqL.of h3⟩, ?_⟩
  intro C3 hC3
  refine lc_list (K := K) (a := l4) (xs := [V.int 0, .int 1, .int 4, .int 5]) (fun j H' => ∃ ws : List V, H' C3 = some (.lst ws) ∧ ws.length = j ∧ AllT H' ws ∧ Same P3 H') ⟨[], upd_same, rfl, .nil, same_new hC3 _⟩ (fun j H' _ h => SqL.of (h.choose_spec.2.2.2 _ _ h3)) ?_ ?_
  · rintro j v H4 hv ⟨ws, hC4, lj, hW, s4⟩
    have hj : j < 4 := (List.getElem?_eq_some_iff.mp hv).1
    obtain ⟨n, rfl, hn⟩ : ∃ n : Nat, v = .int (n : Nat) ∧ (n = 0 ∨ n = 1 ∨ n = 4 ∨ n = 5) := by
      match j, hv with
      | 0, hv => cases hv; exact ⟨0, rfl, .inl rfl⟩
      | 1, hv => cases hv; exact ⟨1, rfl, .inr (.inl rfl)⟩
      | 2, hv => cases hv; exact ⟨4, rfl, .inr (.inr (.inl rfl))⟩
      | 3, hv => cases hv; exact ⟨5, rfl, .inr (.inr (.inr rfl))⟩
      | k + 4, hv => cases hv
    refine ⟨rfl, ?_⟩
    refine ⟨_, rfl, _, rfl, ((n : Nat) : Int), rfl, slA (S := []) (fun a h => absurd h List.not_mem_nil) List.not_mem_nil ((b3.trans s4) _ _ h2) fun p1 H5 t1 _ f1 => ?_⟩
    rw [cut_toV] at f1
    refine ⟨_, rfl, _, _, rfl, rfl, (by show 0 ≤ sizeLine; decide), fun a0 na0 => ?_⟩
    have t2 := same_new na0 (.tup [])
    have f2 := upd_same (H := H5) (a := a0) (o := .tup [])
    generalize upd H5 a0 (.tup []) = H6 at t2 f2 ⊢
    refine ⟨(by show 5 ≤ sizeLine; decide), fun a3 na3 => ?_⟩
    have t3 := same_new na3 (.tup [V.str "work", .str "f", .ref p1, .int (1001 - (n : Nat)), .ref a0])
    have f3 := upd_same (H := H6) (a := a3) (o := .tup [V.str "work", .str "f", .ref p1, .int (1001 - (n : Nat)), .ref a0])
    generalize upd H6 a3 (.tup [V.str "work", .str "f", .ref p1, .int (1001 - (n : Nat)), .ref a0]) = H7 at t3 f3 ⊢
    have t17 := t1.trans (t2.trans t3)
    have hC7 := t17 _ _ hC4
    have g : DpU (tpl H7) (.ref a3) (wkE ((nm5.map PyData.str).take n) (.int (1001 - (n : Nat))) []) := .tup (tpl_at f3) (.cons (.str _) (.cons (.str _) (.cons (.tup (tpl_at ((t2.trans t3) _ _ f1)) ((DpsU.strs _ nm5).take n)) (.cons (.int _) (.cons (.tup (tpl_at (t3 _ _ f2)) .nil) .nil)))))
    have ga : Any (wkE ((nm5.map PyData.str).take n) (.int (1001 - (n : Nat))) []) := by rcases hn with rfl | rfl | rfl | rfl <;> exact anyB_any (by decide +kernel)
    refine ⟨ws, hC7, by omega, ws ++ [.ref a3], upd_same, by rw [List.length_append, lj]; rfl, ((hW.same (tpl_keep t17)).app (.cons g ga .nil)).same (tpl_upd hC7), fun x o z => ?_⟩
    rw [upd_ne (ne_of_none z hC3)]
    exact t17 _ _ (s4 _ _ z)
  rintro P4 ⟨ws3, hC4c, l3c, hW3, c3⟩
  refine ⟨xT, C3, _, _, rfl, rfl, (b2.trans (b3.trans c3)) _ _ h1, hC4c, (by rw [List.length_append, lz10, l3b, l3c, hs]; show 10 + 3 + 4 ≤ 16777216; omega), fun xU nxU => ?_⟩
  have ZP := (ZM.same (tpl_keep (b1.trans (b2.trans (b3.trans c3))))).app hW3
  have o5 := same_new nxU (.lst (zs ++ ws2 ++ ws3))
  have exU := upd_same (H := P4) (a := xU) (o := .lst (zs ++ ws2 ++ ws3))
  generalize upd P4 xU (.lst (zs ++ ws2 ++ ws3)) = P5 at o5 exU ⊢
  refine ⟨_, rfl, (by show 3 ≤ sizeLine; decide), fun m1 nm1 => ?_⟩
  have o6 := same_new nm1 (.tup [V.str "a", .str "b", .str "a"])
  have em1 := upd_same (H := P5) (a := m1) (o := (.tup [V.str "a", .str "b", .str "a"]))
  generalize upd P5 m1 (.tup [V.str "a", .str "b", .str "a"]) = P6 at o6 em1 ⊢
  refine ⟨(by show 0 ≤ sizeLine; decide), fun m2 nm2 => ?_⟩
  have o7 := same_new nm2 (.tup [])
  have em2 := upd_same (H := P6) (a := m2) (o := (.tup []))
  generalize upd P6 m2 (.tup []) = P7 at o7 em2 ⊢
  refine ⟨(by show 5 ≤ sizeLine; decide), fun m3 nm3 => ?_⟩
  have o8 := same_new nm3 (.tup [V.str "work", .str "f", .ref m1, .int 0, .ref m2])
  have em3 := upd_same (H := P7) (a := m3) (o := (.tup [V.str "work", .str "f", .ref m1, .int 0, .ref m2]))
  generalize upd P7 m3 (.tup [V.str "work", .str "f", .ref m1, .int 0, .ref m2]) = P8 at o8 em3 ⊢
  refine ⟨(by show 0 ≤ sizeLine; decide), fun m4 nm4 => ?_⟩
  have o9 := same_new nm4 (.tup [])
  have em4 := upd_same (H := P8) (a := m4) (o := (.tup []))
  generalize upd P8 m4 (.tup []) = P9 at o9 em4 ⊢
  refine ⟨(by show 0 ≤ sizeLine; decide), fun m5 nm5 => ?_⟩
  have o10 := same_new nm5 (.tup [])
  have em5 := upd_same (H := P9) (a := m5) (o := (.tup []))
  generalize upd P9 m5 (.tup []) = P10 at o10 em5 ⊢
  refine ⟨(by show 5 ≤ sizeLine; decide), fun m6 nm6 => ?_⟩
  have o11 := same_new nm6 (.tup [V.str "work", .str "fail", .ref m4, .int 0, .ref m5])
  have em6 := upd_same (H := P10) (a := m6) (o := (.tup [V.str "work", .str "fail", .ref m4, .int 0, .ref m5]))
  generalize upd P10 m6 (.tup [V.str "work", .str "fail", .ref m4, .int 0, .ref m5]) = P11 at o11 em6 ⊢
  refine ⟨(by show 0 ≤ sizeLine; decide), fun m7 nm7 => ?_⟩
  have o12 := same_new nm7 (.tup [])
  have em7 := upd_same (H := P11) (a := m7) (o := (.tup []))
  generalize upd P11 m7 (.tup []) = P12 at o12 em7 ⊢
  refine ⟨(by show 0 ≤ sizeLine; decide), fun m8 nm8 => ?_⟩
  have o13 := same_new nm8 (.tup [])
  have em8 := upd_same (H := P12) (a := m8) (o := (.tup []))
  generalize upd P12 m8 (.tup []) = P13 at o13 em8 ⊢
  refine ⟨(by show 5 ≤ sizeLine; decide), fun m9 nm9 => ?_⟩
  have o14 := same_new nm9 (.tup [V.str "work", .str "abcdefgh", .ref m7, .int 0, .ref m8])
  have em9 := upd_same (H := P13) (a := m9) (o := (.tup [V.str "work", .str "abcdefgh", .ref m7, .int 0, .ref m8]))
  generalize upd P13 m9 (.tup [V.str "work", .str "abcdefgh", .ref m7, .int 0, .ref m8]) = P14 at o14 em9 ⊢
  refine ⟨(by show 3 ≤ sizeLine; decide), fun m10 nm10 => ?_⟩
  have o15 := same_new nm10 (.lst [V.ref m3, V.ref m6, V.ref m9])
  have em10 := upd_same (H := P14) (a := m10) (o := (.lst [V.ref m3, V.ref m6, V.ref m9]))
  generalize upd P14 m10 (.lst [V.ref m3, V.ref m6, V.ref m9]) = P15 at o15 em10 ⊢
  have q1 : DpU (tpl P15) (.ref m3) (wkE [.str "a", .str "b", .str "a"] (.int 0) []) := .tup (tpl_at ((o9.trans (o10.trans (o11.trans (o12.trans (o13.trans (o14.trans o15)))))) _ _ em3)) (.cons (.str _) (.cons (.str _) (.cons (.tup (tpl_at ((o7.trans (o8.trans (o9.trans (o10.trans (o11.trans (o12.trans (o13.trans (o14.trans o15)))))))) _ _ em1)) (.cons (.str _) (.cons (.str _) (.cons (.str _) .nil)))) (.cons (.int _) (.cons (.tup (tpl_at ((o8.trans (o9.trans (o10.trans (o11.trans (o12.trans (o13.trans (o14.trans o15))))))) _ _ em2)) .nil) .nil)))))
  have q2 : DpU (tpl P15) (.ref m6) (.tuple [.str "work", .str "fail", .tuple [], .int 0, .tuple []]) := .tup (tpl_at ((o12.trans (o13.trans (o14.trans o15))) _ _ em6)) (.cons (.str _) (.cons (.str _) (.cons (.tup (tpl_at ((o10.trans (o11.trans (o12.trans (o13.trans (o14.trans o15))))) _ _ em4)) .nil) (.cons (.int _) (.cons (.tup (tpl_at ((o11.trans (o12.trans (o13.trans (o14.trans o15)))) _ _ em5)) .nil) .nil)))))
  have q3 : DpU (tpl P15) (.ref m9) (.tuple [.str "work", .str "abcdefgh", .tuple [], .int 0, .tuple []]) := .tup (tpl_at (o15 _ _ em9)) (.cons (.str _) (.cons (.str _) (.cons (.tup (tpl_at ((o13.trans (o14.trans o15)) _ _ em7)) .nil) (.cons (.int _) (.cons (.tup (tpl_at ((o14.trans o15) _ _ em8)) .nil) .nil)))))
  have ZQ := (ZP.same (tpl_keep (o5.trans (o6.trans (o7.trans (o8.trans (o9.trans (o10.trans (o11.trans (o12.trans (o13.trans (o14.trans o15)))))))))))).app (.cons q1 (anyB_any (by decide +kernel)) (.cons q2 (anyB_any (by decide +kernel)) (.cons q3 (anyB_any (by decide +kernel)) .nil)))
  have lz17 : (zs ++ ws2 ++ ws3).length = 17 := by rw [List.length_append, List.length_append, lz10, l3b, l3c]; rfl
  refine ⟨xU, m10, _, _, rfl, rfl, ((o6.trans (o7.trans (o8.trans (o9.trans (o10.trans (o11.trans (o12.trans (o13.trans (o14.trans o15))))))))) _ _ exU), em10, (by rw [lz17, hs]; show 17 + 3 ≤ 16777216; omega), fun xV nxV => ?_⟩
  have r1v := same_new nxV (.lst (zs ++ ws2 ++ ws3 ++ [V.ref m3, V.ref m6, V.ref m9]))
  have exV := upd_same (H := P15) (a := xV) (o := .lst (zs ++ ws2 ++ ws3 ++ [V.ref m3, V.ref m6, V.ref m9]))
  generalize upd P15 xV (.lst (zs ++ ws2 ++ ws3 ++ [V.ref m3, V.ref m6, V.ref m9])) = R1 at r1v exV ⊢
  have lz20 : (zs ++ ws2 ++ ws3 ++ [V.ref m3, V.ref m6, V.ref m9]).length = 20 := by rw [List.length_append, lz17]; rfl
  have ZR := ZQ.same (tpl_keep r1v)
  have SMP : Same M2 P15 := b1.trans (b2.trans (b3.trans (c3.trans (o5.trans (o6.trans (o7.trans (o8.trans (o9.trans (o10.trans (o11.trans (o12.trans (o13.trans (o14.trans o15)))))))))))))
  have SMR : Same M2 R1 := b1.trans (b2.trans (b3.trans (c3.trans ((o5.trans (o6.trans (o7.trans (o8.trans (o9.trans (o10.trans (o11.trans (o12.trans (o13.trans (o14.trans o15)))))))))).trans r1v))))
  have rowR := rowM.same (tpl_keep SMR)
  have SHR : Same H R1 := SK.trans (c1.trans (c2.trans SMR))
  have n30 : ((10 : Int) ^ Int.toNat 30) = 10 ^ 30 := by decide +kernel
  have p30 : CPow 10 30 := ⟨by decide, by decide, by decide⟩
  refine ⟨_, _, rfl, rfl, p30, _, _, rfl, rfl, _, _, rfl, rfl, p30, _, rfl, (by show 4 ≤ sizeLine; decide), fun l5 nl5 => ?_⟩
  have r2v := same_new nl5 (.lst [V.int ((10 : Int) ^ Int.toNat 30 - 1), V.int ((10 : Int) ^ Int.toNat 30), V.int (-1), V.bl true])
  have el5 := upd_same (H := R1) (a := l5) (o := .lst [V.int ((10 : Int) ^ Int.toNat 30 - 1), V.int ((10 : Int) ^ Int.toNat 30), V.int (-1), V.bl true])
  generalize upd R1 l5 (.lst [V.int ((10 : Int) ^ Int.toNat 30 - 1), V.int ((10 : Int) ^ Int.toNat 30), V.int (-1), V.bl true]) = R2 at r2v el5 ⊢
  have exV2 := r2v _ _ exV
  have n5V : l5 ≠ xV := fun z => by rw [z] at nl5; rw [exV] at nl5; cases nl5
  have ZR2 := ZR.same (tpl_keep r2v)
  refine ⟨l5, rfl, ⟨_, SqL.of el5⟩, ?_⟩
  refine for_list (K := K) (xs := [V.int ((10 : Int) ^ Int.toNat 30 - 1), V.int ((10 : Int) ^ Int.toNat 30), V.int (-1), V.bl true]) (fun j σ H' => ∃ (zs' : List V) (y7 : Option V), σ = [some (.ref r1), some (.ref xV), none, some (.ref pr), y, none, some (.ref pn), y7, none] ∧ H' xV = some (.lst zs') ∧ zs'.length = 20 + j ∧ AllT H' zs' ∧ (∀ a o, a ≠ xV → R2 a = some o → H' a = some o)) ⟨_, none, rfl, exV2, lz20, ZR2, fun a o _ e => e⟩ (fun j σ H' _ h => ?_) ?_ ?_
  · obtain ⟨zs', y7, _, _, _, _, kp⟩ := h
    exact SqL.of (kp _ _ n5V el5)
  · rintro j v σ G1 hv ⟨zs', y7, rfl, hz, lz, hZ', kp⟩
    have hj : j < 4 := (List.getElem?_eq_some_iff.mp hv).1
    obtain ⟨dv, hdv, hany⟩ : ∃ dv, (∀ G, DpU G v dv) ∧ Any (wkE [] (.int 0) [.tuple [.str "fail", .tuple [.str "number", dv]]]) := by
      match j, hv with
      | 0, hv => cases hv; exact ⟨_, fun _ => .int _, anyB_any (by decide +kernel)⟩
      | 1, hv => cases hv; exact ⟨_, fun _ => .int _, anyB_any (by decide +kernel)⟩
      | 2, hv => cases hv; exact ⟨_, fun _ => .int _, anyB_any (by decide +kernel)⟩
      | 3, hv => cases hv; exact ⟨_, fun _ => .bl _, anyB_any (by decide +kernel)⟩
      | k + 4, hv => cases hv
    refine ⟨_, rfl, .inl ⟨rfl, _, SqL.of hz⟩, (by show 0 ≤ sizeLine; decide), fun k1 nk1 => ?_⟩
    have j2 := same_new nk1 (.tup [])
    have ek1 := upd_same (H := G1) (a := k1) (o := (.tup []))
    generalize upd G1 k1 (.tup []) = G2 at j2 ek1 ⊢
    refine ⟨_, rfl, (by show 2 ≤ sizeLine; decide), fun k2 nk2 => ?_⟩
    have j3 := same_new nk2 (.tup [V.str "number", v])
    have ek2 := upd_same (H := G2) (a := k2) (o := (.tup [V.str "number", v]))
    generalize upd G2 k2 (.tup [V.str "number", v]) = G3 at j3 ek2 ⊢
    refine ⟨(by show 2 ≤ sizeLine; decide), fun k3 nk3 => ?_⟩
    have j4 := same_new nk3 (.tup [V.str "fail", V.ref k2])
    have ek3 := upd_same (H := G3) (a := k3) (o := (.tup [V.str "fail", V.ref k2]))
    generalize upd G3 k3 (.tup [V.str "fail", V.ref k2]) = G4 at j4 ek3 ⊢
    refine ⟨(by show 1 ≤ sizeLine; decide), fun k4 nk4 => ?_⟩
    have j5 := same_new nk4 (.tup [V.ref k3])
    have ek4 := upd_same (H := G4) (a := k4) (o := (.tup [V.ref k3]))
    generalize upd G4 k4 (.tup [V.ref k3]) = G5 at j5 ek4 ⊢
    refine ⟨(by show 5 ≤ sizeLine; decide), fun k5 nk5 => ?_⟩
    have j6 := same_new nk5 (.tup [V.str "work", .str "f", .ref k1, .int 0, .ref k4])
    have ek5 := upd_same (H := G5) (a := k5) (o := (.tup [V.str "work", .str "f", .ref k1, .int 0, .ref k4]))
    generalize upd G5 k5 (.tup [V.str "work", .str "f", .ref k1, .int 0, .ref k4]) = G6 at j6 ek5 ⊢
    have jA := (j2.trans (j3.trans (j4.trans (j5.trans j6))))
    have hzN := jA _ _ hz
    have g : DpU (tpl G6) (.ref k5) (wkE [] (.int 0) [.tuple [.str "fail", .tuple [.str "number", dv]]]) := .tup (tpl_at ek5) (.cons (.str _) (.cons (.str _) (.cons (.tup (tpl_at ((j3.trans (j4.trans (j5.trans j6))) _ _ ek1)) .nil) (.cons (.int _) (.cons (.tup (tpl_at (j6 _ _ ek4)) (.cons (.tup (tpl_at ((j5.trans j6) _ _ ek3)) (.cons (.str _) (.cons (.tup (tpl_at ((j4.trans (j5.trans j6)) _ _ ek2)) (.cons (.str _) (.cons (hdv _) .nil))) .nil))) .nil)) .nil)))))
    refine ⟨xV, zs', _, rfl, rfl, hzN, (by rw [lz]; omega), ?_⟩
    refine ⟨zs' ++ [.ref k5], _, rfl, upd_same, by rw [List.length_append, lz]; rfl, ((hZ'.same (tpl_keep jA)).app (.cons g hany .nil)).same (tpl_upd hzN), fun a o na e => ?_⟩
    rw [upd_ne na]
    exact jA _ _ (kp _ _ na e)
  rintro σ G1 ⟨zs', y7, rfl, hz, lz, hZ', kp⟩
  have tG : Same (tpl R2) (tpl G1) := fun a o e => by
    obtain ⟨xs, rfl, h⟩ := tpl_is e
    exact tpl_at (kp _ _ (fun z => by rw [z, exV2] at h; cases h) h)
  have SHP : Same H P15 := SK.trans (c1.trans (c2.trans SMP))
  have SHG : Same H G1 := fun a o e => kp _ _ (fun z => by have := SHP _ _ e; rw [z, nxV] at this; cases this) (r2v _ _ (SHR _ _ e))
  have rowG := (rowR.same (tpl_keep r2v)).same tG
  have lz24 : zs'.length = 24 := lz
  refine ⟨(by show 2 ≤ sizeLine; decide), fun T1 nT1 => ?_⟩
  have i2 := same_new nT1 (.tup [V.str "number", V.int 1])
  have eT1 := upd_same (H := G1) (a := T1) (o := (.tup [V.str "number", V.int 1]))
  generalize upd G1 T1 (.tup [V.str "number", V.int 1]) = G2 at i2 eT1 ⊢
  refine ⟨(by show 1 ≤ sizeLine; decide), fun T2 nT2 => ?_⟩
  have i3 := same_new nT2 (.tup [V.ref T1])
  have eT2 := upd_same (H := G2) (a := T2) (o := (.tup [V.ref T1]))
  generalize upd G2 T2 (.tup [V.ref T1]) = G3 at i3 eT2 ⊢
  refine ⟨T2, 5, _, rfl, rfl, eT2, (fun z => by cases z), (by show 1 ≤ 1000; omega), by omega, fun T3 G4 i4 _ eT3 => ?_⟩
  refine ⟨_, rfl, (by show 3 ≤ sizeLine; decide), fun l6 nl6 => ?_⟩
  have i5 := same_new nl6 (.lst [V.int 0, V.int 4, V.int 5])
  have el6 := upd_same (H := G4) (a := l6) (o := (.lst [V.int 0, V.int 4, V.int 5]))
  generalize upd G4 l6 (.lst [V.int 0, V.int 4, V.int 5]) = G5 at i5 el6 ⊢
  have gT : DpU (tpl G5) (.ref T1) (.tuple [.str "number", .int 1]) := .tup (tpl_at ((i3.trans (i4.trans i5)) _ _ eT1)) (.cons (.str _) (.cons (.int _) .nil))
  have gTs := DpsU.rep (.cons gT .nil) 5
  have eT3A := (i5 _ _ eT3)
  refine ⟨l6, rfl, ⟨_, SqL.of el6⟩, ?_⟩
  intro C4 hC4
  refine lc_list (K := K) (a := l6) (xs := [V.int 0, .int 4, .int 5]) (fun j H' => ∃ ws : List V, H' C4 = some (.lst ws) ∧ ws.length = j ∧ AllT H' ws ∧ Same G5 H') ⟨[], upd_same, rfl, .nil, same_new hC4 _⟩ (fun j H' _ h => SqL.of (h.choose_spec.2.2.2 _ _ el6)) ?_ ?_
  · rintro j v K1 hv ⟨ws, hCK, lj, hW', sK⟩
    have hj : j < 3 := (List.getElem?_eq_some_iff.mp hv).1
    obtain ⟨n, rfl, hn⟩ : ∃ n : Nat, v = .int (n : Nat) ∧ (n = 0 ∨ n = 4 ∨ n = 5) := by
      match j, hv with
      | 0, hv => cases hv; exact ⟨0, rfl, .inl rfl⟩
      | 1, hv => cases hv; exact ⟨4, rfl, .inr (.inl rfl)⟩
      | 2, hv => cases hv; exact ⟨5, rfl, .inr (.inr (rfl))⟩
      | k + 3, hv => cases hv
    refine ⟨rfl, ?_⟩
    refine ⟨(by show 0 ≤ sizeLine; decide), fun k1 nk1 => ?_⟩
    have j2 := same_new nk1 (.tup [])
    have ek1 := upd_same (H := K1) (a := k1) (o := (.tup []))
    generalize upd K1 k1 (.tup []) = K2 at j2 ek1 ⊢
    refine ⟨_, rfl, _, rfl, ((n : Nat) : Int), rfl, slA (S := []) (fun a h => absurd h List.not_mem_nil) List.not_mem_nil ((sK.trans j2) _ _ eT3A) fun k2 K3 j3 _ ek2 => ?_⟩
    rw [cut_toV] at ek2
    refine ⟨(by show 4 ≤ sizeLine; decide), fun k3 nk3 => ?_⟩
    have j4 := same_new nk3 (.tup [V.str "go", V.str "x", V.str "f", V.ref k2])
    have ek3 := upd_same (H := K3) (a := k3) (o := (.tup [V.str "go", V.str "x", V.str "f", V.ref k2]))
    generalize upd K3 k3 (.tup [V.str "go", V.str "x", V.str "f", V.ref k2]) = K4 at j4 ek3 ⊢
    refine ⟨(by show 1 ≤ sizeLine; decide), fun k4 nk4 => ?_⟩
    have j5 := same_new nk4 (.tup [V.ref k3])
    have ek4 := upd_same (H := K4) (a := k4) (o := (.tup [V.ref k3]))
    generalize upd K4 k4 (.tup [V.ref k3]) = K5 at j5 ek4 ⊢
    refine ⟨(by show 5 ≤ sizeLine; decide), fun k5 nk5 => ?_⟩
    have j6 := same_new nk5 (.tup [V.str "work", .str "f", .ref k1, .int 0, .ref k4])
    have ek5 := upd_same (H := K5) (a := k5) (o := (.tup [V.str "work", .str "f", .ref k1, .int 0, .ref k4]))
    generalize upd K5 k5 (.tup [V.str "work", .str "f", .ref k1, .int 0, .ref k4]) = K6 at j6 ek5 ⊢
    have jA := (j2.trans (j3.trans (j4.trans (j5.trans j6))))
    have hCN := jA _ _ hCK
    have g : DpU (tpl K6) (.ref k5) (wkE [] (.int 0) [.tuple [.str "go", .str "x", .str "f", .tuple ((List.replicate 5 [PyData.tuple [.str "number", .int 1]]).flatten.take n)]]) := .tup (tpl_at ek5) (.cons (.str _) (.cons (.str _) (.cons (.tup (tpl_at ((j3.trans (j4.trans (j5.trans j6))) _ _ ek1)) .nil) (.cons (.int _) (.cons (.tup (tpl_at (j6 _ _ ek4)) (.cons (.tup (tpl_at ((j5.trans j6) _ _ ek3)) (.cons (.str _) (.cons (.str _) (.cons (.str _) (.cons (.tup (tpl_at ((j4.trans (j5.trans j6)) _ _ ek2)) ((gTs.same (tpl_keep (sK.trans jA))).take n)) .nil))))) .nil)) .nil)))))
    have ga : Any (wkE [] (.int 0) [.tuple [.str "go", .str "x", .str "f", .tuple ((List.replicate 5 [PyData.tuple [.str "number", .int 1]]).flatten.take n)]]) := by rcases hn with rfl | rfl | rfl <;> exact anyB_any (by decide +kernel)
    refine ⟨ws, hCN, by omega, ws ++ [.ref k5], upd_same, by rw [List.length_append, lj]; rfl, ((hW'.same (tpl_keep jA)).app (.cons g ga .nil)).same (tpl_upd hCN), fun x o z => ?_⟩
    rw [upd_ne (ne_of_none z hC4)]
    exact jA _ _ (sK _ _ z)
  rintro G6 ⟨ws4, hC4d, l4d, hW4, i6⟩
  have ZG := (hZ'.same (tpl_keep (i2.trans (i3.trans (i4.trans (i5.trans i6)))))).app hW4
  refine ⟨xV, C4, _, _, rfl, rfl, (i2.trans (i3.trans (i4.trans (i5.trans i6)))) _ _ hz, hC4d, (by rw [lz24, l4d, hs]; show 24 + 3 ≤ 16777216; omega), fun xW nxW => ?_⟩
  have i7 := same_new nxW (.lst (zs' ++ ws4))
  have exW := upd_same (H := G6) (a := xW) (o := .lst (zs' ++ ws4))
  generalize upd G6 xW (.lst (zs' ++ ws4)) = G7 at i7 exW ⊢
  refine ⟨_, rfl, (by show 2 ≤ sizeLine; decide), fun l7 nl7 => ?_⟩
  have i8 := same_new nl7 (.lst [V.int 20, V.int 21])
  have el7 := upd_same (H := G7) (a := l7) (o := (.lst [V.int 20, V.int 21]))
  generalize upd G7 l7 (.lst [V.int 20, V.int 21]) = G8 at i8 el7 ⊢
  have rowQ := rowG.same (tpl_keep (i2.trans (i3.trans (i4.trans (i5.trans (i6.trans (i7.trans i8)))))))
  have exWA := (i8 _ _ exW)
  have ZGA := ZG.same (tpl_keep (i7.trans i8))
  refine ⟨l7, rfl, ⟨_, SqL.of el7⟩, ?_⟩
  intro C5 hC5
  refine lc_list (K := K) (a := l7) (xs := [V.int 20, .int 21]) (fun j H' => ∃ ws : List V, H' C5 = some (.lst ws) ∧ ws.length = j ∧ AllT H' ws ∧ Same G8 H') ⟨[], upd_same, rfl, .nil, same_new hC5 _⟩ (fun j H' _ h => SqL.of (h.choose_spec.2.2.2 _ _ el7)) ?_ ?_
  · rintro j v K1 hv ⟨ws, hCK, lj, hW', sK⟩
    have hj : j < 2 := (List.getElem?_eq_some_iff.mp hv).1
    obtain ⟨n, rfl, hn⟩ : ∃ n : Nat, v = .int (n : Nat) ∧ (n = 20 ∨ n = 21) := by
      match j, hv with
      | 0, hv => cases hv; exact ⟨20, rfl, .inl rfl⟩
      | 1, hv => cases hv; exact ⟨21, rfl, .inr rfl⟩
      | k + 2, hv => cases hv
    refine ⟨rfl, ?_⟩
    refine ⟨(by show 0 ≤ sizeLine; decide), fun k1 nk1 => ?_⟩
    have j2 := same_new nk1 (.tup [])
    have ek1 := upd_same (H := K1) (a := k1) (o := (.tup []))
    generalize upd K1 k1 (.tup []) = K2 at j2 ek1 ⊢
    refine ⟨(by show 2 ≤ sizeLine; decide), fun k2 nk2 => ?_⟩
    have j3 := same_new nk2 (.tup [V.str "number", V.int 1])
    have ek2 := upd_same (H := K2) (a := k2) (o := (.tup [V.str "number", V.int 1]))
    generalize upd K2 k2 (.tup [V.str "number", V.int 1]) = K3 at j3 ek2 ⊢
    refine ⟨_, rfl, (by show 1 ≤ sizeLine; decide), fun k3 nk3 => ?_⟩
    have j4 := same_new nk3 (.tup [V.ref r1])
    have ek3 := upd_same (H := K3) (a := k3) (o := (.tup [V.ref r1]))
    generalize upd K3 k3 (.tup [V.ref r1]) = K4 at j4 ek3 ⊢
    refine ⟨k3, 19, _, rfl, rfl, ek3, (fun z => by cases z), (by show 1 ≤ 1000; omega), by omega, fun k4 K5 j5 _ ek4 => ?_⟩
    refine ⟨_, rfl, (by show 1 ≤ sizeLine; decide), fun k5 nk5 => ?_⟩
    have j6 := same_new nk5 (.tup [V.ref r1])
    have ek5 := upd_same (H := K5) (a := k5) (o := (.tup [V.ref r1]))
    generalize upd K5 k5 (.tup [V.ref r1]) = K6 at j6 ek5 ⊢
    refine ⟨_, rfl, k5, n, _, rfl, rfl, ek5, (fun z => by cases z), (by show 1 ≤ 1000; omega), by omega, fun k6 K7 j7 _ ek6 => ?_⟩
    refine ⟨(by show 4 ≤ sizeLine; decide), fun k7 nk7 => ?_⟩
    have j8 := same_new nk7 (.tup [V.str "if", V.ref k2, V.ref k4, V.ref k6])
    have ek7 := upd_same (H := K7) (a := k7) (o := (.tup [V.str "if", V.ref k2, V.ref k4, V.ref k6]))
    generalize upd K7 k7 (.tup [V.str "if", V.ref k2, V.ref k4, V.ref k6]) = K8 at j8 ek7 ⊢
    refine ⟨(by show 1 ≤ sizeLine; decide), fun k8 nk8 => ?_⟩
    have j9 := same_new nk8 (.tup [V.ref k7])
    have ek8 := upd_same (H := K8) (a := k8) (o := (.tup [V.ref k7]))
    generalize upd K8 k8 (.tup [V.ref k7]) = K9 at j9 ek8 ⊢
    refine ⟨(by show 5 ≤ sizeLine; decide), fun k9 nk9 => ?_⟩
    have j10 := same_new nk9 (.tup [V.str "work", .str "f", .ref k1, .int 0, .ref k8])
    have ek9 := upd_same (H := K9) (a := k9) (o := (.tup [V.str "work", .str "f", .ref k1, .int 0, .ref k8]))
    generalize upd K9 k9 (.tup [V.str "work", .str "f", .ref k1, .int 0, .ref k8]) = K10 at j10 ek9 ⊢
    have jA := (j2.trans (j3.trans (j4.trans (j5.trans (j6.trans (j7.trans (j8.trans (j9.trans j10))))))))
    have hCN := jA _ _ hCK
    have rowK := rowQ.same (tpl_keep (sK.trans jA))
    have g : DpU (tpl K10) (.ref k9) (wkE [] (.int 0) [.tuple [.str "if", .tuple [.str "number", .int 1], .tuple (List.replicate 19 [rowE]).flatten, .tuple (List.replicate n [rowE]).flatten]]) := .tup (tpl_at ek9) (.cons (.str _) (.cons (.str _) (.cons (.tup (tpl_at ((j3.trans (j4.trans (j5.trans (j6.trans (j7.trans (j8.trans (j9.trans j10))))))) _ _ ek1)) .nil) (.cons (.int _) (.cons (.tup (tpl_at (j10 _ _ ek8)) (.cons (.tup (tpl_at ((j9.trans j10) _ _ ek7)) (.cons (.str _) (.cons (.tup (tpl_at ((j4.trans (j5.trans (j6.trans (j7.trans (j8.trans (j9.trans j10)))))) _ _ ek2)) (.cons (.str _) (.cons (.int _) .nil))) (.cons (.tup (tpl_at ((j6.trans (j7.trans (j8.trans (j9.trans j10)))) _ _ ek4)) (DpsU.rep (.cons rowK .nil) 19)) (.cons (.tup (tpl_at ((j8.trans (j9.trans j10)) _ _ ek6)) (DpsU.rep (.cons rowK .nil) n)) .nil))))) .nil)) .nil)))))
    have ga : Any (wkE [] (.int 0) [.tuple [.str "if", .tuple [.str "number", .int 1], .tuple (List.replicate 19 [rowE]).flatten, .tuple (List.replicate n [rowE]).flatten]]) := by rcases hn with rfl | rfl <;> exact anyB_any (by decide +kernel)
    refine ⟨ws, hCN, by omega, ws ++ [.ref k9], upd_same, by rw [List.length_append, lj]; rfl, ((hW'.same (tpl_keep jA)).app (.cons g ga .nil)).same (tpl_upd hCN), fun x o z => ?_⟩
    rw [upd_ne (ne_of_none z hC5)]
    exact jA _ _ (sK _ _ z)
  rintro G9 ⟨ws5, hC5d, l5d, hW5, i9⟩
  have ZF := (ZGA.same (tpl_keep i9)).app hW5
  have lz27 : (zs' ++ ws4).length = 27 := by rw [List.length_append, lz24, l4d]; rfl
  refine ⟨xW, C5, _, _, rfl, rfl, i9 _ _ exWA, hC5d, (by rw [lz27, l5d, hs]; show 27 + 2 ≤ 16777216; omega), fun xX nxX => ?_⟩
  have sF := same_new nxX (.lst (zs' ++ ws4 ++ ws5))
  have SF : Same H G9 := SHG.trans (i2.trans (i3.trans (i4.trans (i5.trans (i6.trans (i7.trans (i8.trans i9)))))))
  obtain ⟨ds, hds, hok⟩ := ZF.same (tpl_keep sF)
  refine q xX _ ds _ (SF.trans sF) (SF.free nxX) upd_same (hds.same (tpl_same _)) hok ?_
  rw [← hds.len, List.length_append, lz27, l5d]
  show 27 + 2 ≤ 1000
  omega
end
end SH

set_option Elab.async false
set_option linter.all false
set_option maxRecDepth 100000
namespace SH
open PySem L2
abbrev sLaw : Stmt := topS 65
theorem scLaw : FnScope ["_law_script", "_law_k", "_law_bag_here", "_law_work", "_law_spoilt_here", "_law_things", "_law_thing", "_law_shown", "_law_due"] ["_law_script"] (defScope sLaw) := ⟨rfl, rfl, rfl, by decide +kernel, rfl, by decide +kernel, by decide +kernel⟩
def spLaw (K : PySem.W.Frag) : Sp := fun vs H Q _ => ∃ (a : Addr) (ns : List Int), vs = [.ref a] ∧ SqL K H a (ns.map V.int) ∧ ns.length ≤ 63 ∧ ∀ H', Q (.bl true) H'
/-- data that can be asked and shown -/
structure Okd (d : PyData) : Prop where
  any : Any d
  sh : d.showable = true
  nd : d.hasDict = false
  dep : d.depth ≤ 60
  sz : d.shown.length ≤ sizeLine
theorem Pl.okd {b n m : Nat} {d : PyData} (h : Pl b n m d) (hb : b < 2 ^ 100) (hn : n ≤ 60) (hm : m ≤ 16000000) : Okd d :=
  ⟨⟨h.shaped (by omega), Nat.le_trans h.w hm⟩, asc_sh hb h.a, asc_nd h.a, Nat.le_trans h.dep hn, by
    have := asc_wt hb h.a
    have := h.w
    have : sizeLine = 16777216 := by decide
    omega⟩
def AllOk (H : Hp) (vs : List V) : Prop := ∃ ds, DpsU H vs ds ∧ ∀ d ∈ ds, Okd d
theorem AllOk.nil {H : Hp} : AllOk H [] := ⟨[], .nil, fun d h => absurd h List.not_mem_nil⟩
theorem AllOk.cons {H : Hp} {v : V} {vs : List V} {d : PyData} (h : DpU H v d) (k : Okd d) : AllOk H vs → AllOk H (v :: vs)
  | ⟨ds, a, b⟩ => ⟨d :: ds, .cons h a, fun e he => by
    rcases List.mem_cons.mp he with rfl | he
    · exact k
    · exact b e he⟩
theorem AllOk.same {H H' : Hp} {vs : List V} (s : Same H H') : AllOk H vs → AllOk H' vs
  | ⟨ds, a, b⟩ => ⟨ds, a.same s, b⟩
theorem AllOk.at {H : Hp} {vs : List V} {i : Nat} {v : V} (h : AllOk H vs) (e : vs[i]? = some v) : ∃ d, DpU H v d ∧ Okd d := by
  obtain ⟨ds, a, b⟩ := h
  obtain ⟨d, ed, hd⟩ := a.get e
  exact ⟨d, hd, b d (List.mem_of_getElem? ed)⟩
section
variable {P : Program} {w : World} {K : PySem.W.Frag} {mg : Str → Option Value} {base : Heap}
set_option maxHeartbeats 1000000 in
theorem ok_law {f aB aW aS aT aA aI aD aE : Addr} {fd dB dW dS dT dA dI dD dE : FuncData} (F : Fun K "law" "law" sLaw f fd) (BG : Fk P w K mg base 1 "_law_bag" aB dB ["_law_script", "_law_k"] (spBag K)) (WS : Fk P w K mg base 17 "_law_works" aW dW ["_law_bag_here", "_law_most"] spWorks) (SP : Fk P w K mg base 35 "_law_spoilt" aS dS ["_law_bag_here", "_law_thing"] (spSpoil 30)) (TW : Fk P w K mg base 42 "_law_twin" aT dT ["_law_thing"] (spTwin 40)) (AY : Fk P w K mg base 6 "_law_any" aA dA ["_law_bag_here", "_law_deep_here"] (spAnyD 4))
    (IWL : Fk P w K mg base 79 "_law_is_work" aI dI ["_law_thing"] (spAny workB)) (SD : Fk P w K mg base 25 "_law_said" aD dD ["_law_thing"] spSaid01) (ED : Fk P w K mg base 2 "_law_edges" aE dE [] spEdges) (T : Bi mg) (mt : mg "tuple" = none) (mtl : mg "list" = none) (q_repr : mg "repr" = none) : FnG P w K mg base 80 f fd ["_law_script"] (spLaw K) := by
  refine okG F scLaw (fun vs H Q E h => ?_) (fun cdv A outer s H vs Q E gd hr h => ?_)
  · obtain ⟨a, ns, rfl, _⟩ := h
    rfl
  obtain ⟨a, ns, rfl, hSc, h63, q⟩ := h
  refine ⟨_, (pss_cons (ps_for PassesOwn.never rfl (pi_range1 (by rfl) T.range (pa_cons (pe_callB (call_max2 rfl) (by rfl) T.max (by decide +kernel) (pa_cons pe_int (pa_cons (pe_callB (call_min2 rfl) (by rfl) T.min (by decide +kernel) (pa_cons pe_int (pa_cons (pe_callB call_len_seq (by rfl) T.len (by decide +kernel) (pa_cons (pv 0) pa_nil)) pa_nil))) pa_nil))) pa_nil)) (pg_name (i := 1) scLaw.nd rfl (.inl rfl))
      (pss_cons (ps_set (i := 2) scLaw.nd rfl (Or.inl rfl) (pe_call BG.G (hr.mono (by omega)) (by rfl) BG.m BG.k BG.b .nil pass0 (pa_cons (pv 0) (pa_cons (pv 1) pa_nil))))
    (pss_cons (ps_set (i := 3) scLaw.nd rfl (Or.inl rfl) (pe_ix ix_list (pe_call WS.G (hr.mono (by omega)) (by rfl) WS.m WS.k WS.b .nil pass0 (pa_cons (pv 2) (pa_cons pe_int pa_nil))) pe_int (fun _ _ => rfl)))
    (pss_cons (ps_set (i := 4) scLaw.nd rfl (Or.inl rfl) (pe_call SP.G (hr.mono (by omega)) (by rfl) SP.m SP.k SP.b .nil pass0 (pa_cons (pv 2) (pa_cons (pv 3) pa_nil))))
    (pss_cons (ps_set (i := 5) scLaw.nd rfl (Or.inl rfl) (pe_lst (pa_cons (pv 3) (pa_cons (pe_call TW.G (hr.mono (by omega)) (by rfl) TW.m TW.k TW.b .nil pass0 (pa_cons (pv 3) pa_nil)) (pa_cons (pv 4) (pa_cons (pe_call TW.G (hr.mono (by omega)) (by rfl) TW.m TW.k TW.b .nil pass0 (pa_cons (pv 4) pa_nil)) (pa_cons (pe_call SP.G (hr.mono (by omega)) (by rfl) SP.m SP.k SP.b .nil pass0 (pa_cons (pv 2) (pa_cons (pv 4) pa_nil))) (pa_cons (pe_call SP.G (hr.mono (by omega)) (by rfl) SP.m SP.k SP.b .nil pass0 (pa_cons (pv 2) (pa_cons (pv 3) pa_nil))) pa_nil))))))))
    (pss_cons (ps_set (i := 5) scLaw.nd rfl (Or.inl rfl) (pe_op op_cat (pv 5) (pe_lst (pa_cons (pe_call AY.G (hr.mono (by omega)) (by rfl) AY.m AY.k AY.b .nil pass0 (pa_cons (pv 2) (pa_cons pe_int pa_nil))) (pa_cons (pe_callTy call_list_of (by rfl) mtl (by decide +kernel) (pa_cons (pv 3) pa_nil)) (pa_cons (pv 3) pa_nil))))))
    (pss_one (ps_for PassesOwn.never rfl (pi_list (pv 5)) (pg_name (i := 6) scLaw.nd rfl (.inl rfl))
      (pss_cons (ps_set (i := 7) scLaw.nd rfl (Or.inl rfl) (pe_callB (call_reprV gd hr.units) (by rfl) q_repr (by decide +kernel) (pa_cons (pv 6) pa_nil)))
    (pss_cons (ps_set (i := 8) scLaw.nd rfl (Or.inl rfl) (pe_ifExp (pt_val (pe_call IWL.G (hr.mono (by omega)) (by rfl) IWL.m IWL.k IWL.b .nil pass0 (pa_cons (pv 6) pa_nil))) pe_non pe_str))
    (pss_one (ps_if (PW.pt (pw_or (pt_cmpR op_ne (pe_call SD.G (hr.mono (by omega)) (by rfl) SD.m SD.k SD.b .nil pass0 (pa_cons (pv 6) pa_nil)) (pv 8) (nomark _)) (pw_or1 (pt_cmpR op_ne (pe_callB (call_reprV gd hr.units) (by rfl) q_repr (by decide +kernel) (pa_cons (pv 6) pa_nil)) (pv 7) (nomark _)))))
      (pss_one (ps_ret pe_bl))
      pss_nil))))))))))))
    (pss_one (ps_ret (pe_callB (cr_all rfl) (by rfl) T.all (by decide +kernel) (pa_cons (pe_lc (own := [("_law_thing", 6)]) (g := gName 6) (tt := tYes) (by rfl) scLaw.nd (pi_list (pe_call0 ED.G (hr.mono (by omega)) (by rfl) ED.m ED.k ED.b .nil pass0)) (blkOk_by (own := [("_law_thing", 6)]) (N := ["_law_script", "_law_k", "_law_bag_here", "_law_work", "_law_spoilt_here", "_law_things", "_law_thing", "_law_shown", "_law_due"]) (sc := defScope sLaw) (by decide +kernel)) (fun _ _ _ _ _ => pg_name (i := 6) scLaw.nd rfl (Or.inl rfl)) (fun _ _ _ _ _ => pts_nil) (fun _ _ _ _ _ => (pe_cmpR op_eq (pe_call SD.G (hr.mono (by omega)) (by rfl) SD.m SD.k SD.b .nil pass0 (pa_cons (pv 6) pa_nil)) (pe_ifExp (pt_val (pe_call IWL.G (hr.mono (by omega)) (by rfl) IWL.m IWL.k IWL.b .nil pass0 (pa_cons (pv 6) pa_nil))) pe_non pe_str) (nomark _)))) pa_nil))))), ?_⟩
  have hs : sizeLine = 16777216 := by decide
  have hnum : ∃ N : Int, N = (if (if ((ns.map V.int).length : Int) < 5 then ((ns.map V.int).length : Int) else 5) > 2 then (if ((ns.map V.int).length : Int) < 5 then ((ns.map V.int).length : Int) else 5) else 2) ∧ 0 ≤ N ∧ N ≤ 5 := by
    refine ⟨_, rfl, ?_, ?_⟩ <;> (split <;> (try split) <;> omega)
  obtain ⟨N, eN, N0, N4⟩ := hnum
  refine ⟨_, rfl, a, _, rfl, .inl hSc, _, _, rfl, _, _, rfl, N, (by rw [eN]), by omega, by omega, ?_⟩
  refine for_range (lo := 0) (n := N.toNat) (fun i σ H' => ∃ (y1 y2 y3 y4 y5 y6 y7 y8 : Option V), σ = [some (.ref a), y1, y2, y3, y4, y5, y6, y7, y8] ∧ Same H H') ?_ ?_ ?_
  · exact ⟨none, none, none, none, none, none, none, none, rfl, Same.refl _⟩
  · rintro i σ H1 hi ⟨y1, y2, y3, y4, y5, y6, y7, y8, rfl, sH⟩
    have hi5 : i < 5 := by omega
    refine ⟨_, rfl, _, rfl, a, ns, 0 + (i : Int), rfl, sH.seq hSc, by omega, by omega, fun b H2 s2 nb B2 => ?_⟩
    refine ⟨_, rfl, b, 1, 14000000, rfl, by decide, by decide, B2.less (by decide), fun l us Ws H3 nl hl hW ok l1 l3 B3 U3 => ?_⟩
    have hlen : 0 < us.length := by have := hW.1; omega
    obtain ⟨v0, ev0⟩ : ∃ v, us[0]? = some v := ⟨_, List.getElem?_eq_getElem hlen⟩
    obtain ⟨W, eW, hWk⟩ := hW.2 0 v0 ev0
    obtain ⟨a0, _, _, _, rfl, _, _⟩ := id hWk
    have okW := ok.each W (List.mem_of_getElem? eW)
    refine ⟨l, us, 0, V.ref a0, rfl, rfl, SqL.of hl, atI_nat (j := 0) ev0, ?_⟩
    have hd3 : DpU (msk [b] H3) (V.ref a0) W.dat := Wk.dpu (fun a xs e => msk_at (fun z => bag_neT B3 e (List.mem_singleton.mp z)) e) hWk
    have pl0 := Wk.pl okW
    have hS3 : InH [b] H3 := fun a ha => by
      obtain ⟨ys, e⟩ := B3.lst
      rw [List.mem_singleton.mp ha, e]
      exact fun z => nomatch z
    have mb : b ∈ [b] := List.mem_cons_self ..
    have b30 : 10 ^ 30 ≤ B30 := Nat.le_refl _
    have c30 : B30 + 2 < 2 ^ 100 := by decide +kernel
    have n30 : nS 30 = 130 := rfl
    have nA4 : nA 4 = 1718 := rfl
    have dep0 : W.dat.depth ≤ 16 := pl0.dep
    refine ⟨_, rfl, _, rfl, b, V.ref a0, W.dat, 13000000, B30, 1050000, 16, [b], rfl, mb, hS3, B3.less (by decide), hd3, pl0, by omega, by decide, b30, by omega, by decide, fun v1 d1 H4 hv1 hp1 B4 U4 => ?_⟩
    have hS4 := hS3.but U4 B4
    have hd4 := hd3.same (msk_but mb U4)
    refine ⟨_, rfl, _, rfl, V.ref a0, W.dat, B30, 16, 1050000, [b], rfl, hS4, hd4, pl0, by omega, by decide, fun v2 d2 H5 s5 hv2 hp2 => ?_⟩
    have hS5 := hS4.same s5
    have hv15 := hv1.same (msk_keep s5)
    have dep1 := hp1.dep
    refine ⟨_, rfl, _, rfl, v1, d1, B30 + 1, 21, wS 1050000, [b], rfl, hS5, hv15, hp1, by omega, by decide, fun v3 d3 H6 s6 hv3 hp3 => ?_⟩
    have hS6 := hS5.same s6
    refine ⟨_, rfl, _, rfl, b, v1, d1, 12000000, B30 + 1, wS 1050000, 21, [b], rfl, mb, hS6, ((B4.same s5).same s6).less (by decide), hv15.same (msk_keep s6), hp1, by omega, by decide, by omega, by omega, by decide, fun v4 d4 H7 hv4 hp4 B7 U7 => ?_⟩
    have hS7 := hS6.but U7 B7
    have k47 : Same (msk [b] H4) (msk [b] H7) := ((msk_keep s5).trans (msk_keep s6)).trans (msk_but mb U7)
    refine ⟨_, rfl, _, rfl, b, V.ref a0, W.dat, 11000000, B30, 1050000, 16, [b], rfl, mb, hS7, B7.less (by decide), hd4.same k47, pl0, by omega, by decide, b30, by omega, by decide, fun v5 d5 H8 hv5 hp5 B8 U8 => ?_⟩
    have hS8 := hS7.but U8 B8
    refine ⟨(by show 6 ≤ sizeLine; decide), fun q1 nq1 => ?_⟩
    have t1 := same_new nq1 (.lst [V.ref a0, v2, v1, v3, v4, v5])
    have f1 := upd_same (H := H8) (a := q1) (o := .lst [V.ref a0, v2, v1, v3, v4, v5])
    have q1b := bag_ne B8 nq1
    generalize upd H8 q1 (.lst [V.ref a0, v2, v1, v3, v4, v5]) = H9 at t1 f1 ⊢
    have B9 := B8.same t1
    have hS9 := hS8.same t1
    refine ⟨_, rfl, _, rfl, b, 10000000, [b], rfl, mb, hS9, B9.less (by decide), fun v6 d6 HA hv6 hp6 BA UA => ?_⟩
    have hSA := hS9.but UA BA
    have k7 : Same (msk [b] H7) (msk [b] HA) := ((msk_but mb U8).trans (msk_keep t1)).trans (msk_but mb UA)
    have kA : Same (msk [b] H4) (msk [b] HA) := k47.trans k7
    have hdA := hd4.same kA
    obtain ⟨_, _, xs0, hx0, P0⟩ := Ps.of hdA pl0
    have hxA := msk_same _ _ _ _ hx0
    have wE : W.dat = .tuple _ := rfl
    refine ⟨_, rfl, a0, xs0, rfl, .inr (SqT.of hxA), fun q2 nq2 => ?_⟩
    have t2 := same_new nq2 (.lst xs0)
    have f2 := upd_same (H := HA) (a := q2) (o := .lst xs0)
    have m2 := hSA.new nq2
    generalize upd HA q2 (.lst xs0) = HB at t2 f2 ⊢
    have hSB := hSA.same t2
    refine ⟨_, rfl, (by show 3 ≤ sizeLine; decide), fun q3 nq3 => ?_⟩
    have t3 := same_new nq3 (.lst [v6, V.ref q2, V.ref a0])
    have f3 := upd_same (H := HB) (a := q3) (o := .lst [v6, V.ref q2, V.ref a0])
    generalize upd HB q3 (.lst [v6, V.ref q2, V.ref a0]) = HC at t3 f3 ⊢
    refine ⟨q1, q3, _, _, rfl, rfl, t3 _ _ (t2 _ _ (UA _ _ q1b f1)), f3, (by show 9 ≤ sizeLine; decide), fun q4 nq4 => ?_⟩
    have t4 := same_new nq4 (.lst ([V.ref a0, v2, v1, v3, v4, v5] ++ [v6, V.ref q2, V.ref a0]))
    have f4 := upd_same (H := HC) (a := q4) (o := .lst ([V.ref a0, v2, v1, v3, v4, v5] ++ [v6, V.ref q2, V.ref a0]))
    generalize upd HC q4 (.lst ([V.ref a0, v2, v1, v3, v4, v5] ++ [v6, V.ref q2, V.ref a0])) = HD at t4 f4 ⊢
    have tAD := t2.trans (t3.trans t4)
    have kAD : Same (msk [b] HA) (msk [b] HD) := msk_keep tAD
    have k5 : Same (msk [b] H5) (msk [b] HD) := ((msk_keep s6).trans (msk_but mb U7)).trans (k7.trans kAD)
    have k6 : Same (msk [b] H6) (msk [b] HD) := (msk_but mb U7).trans (k7.trans kAD)
    have k8 : Same (msk [b] H8) (msk [b] HD) := (msk_keep t1).trans ((msk_but mb UA).trans kAD)
    have gL := (P0.same (msk_keep (S := [b]) t2)).lst (msk_at m2 f2)
    have hAll := (msk_same [b] HD)
    have w1 : wS 1050000 = 3170000 := rfl
    have w2 : wS (wS 1050000) = 9530000 := rfl
    have wA4 : wA 4 = 377028 := rfl
    have o0 : Okd W.dat := pl0.okd (by omega) (by omega) (by omega)
    have hD : AllOk HD ([V.ref a0, v2, v1, v3, v4, v5] ++ [v6, V.ref q2, V.ref a0]) :=
      .cons ((hdA.same kAD).same hAll) o0 (.cons ((hv2.same k5).same hAll) (hp2.okd (by omega) (by omega) (by omega)) (.cons ((hv15.same k5).same hAll) (hp1.okd (by omega) (by omega) (by omega)) (.cons ((hv3.same k6).same hAll) (hp3.okd (by omega) (by omega) (by omega)) (.cons ((hv4.same (k7.trans kAD)).same hAll) (hp4.okd (by omega) (by omega) (by omega)) (.cons ((hv5.same k8).same hAll) (hp5.okd (by omega) (by omega) (by omega)) (.cons ((hv6.same kAD).same hAll) (hp6.okd (by omega) (by omega) (by omega)) (.cons ((gL.1.same (msk_keep (t3.trans t4))).same hAll) (gL.2.okd (by omega) (by omega) (by omega)) (.cons ((hdA.same kAD).same hAll) o0 .nil))))))))
    have U1D : But b H3 HD := fun a o n e => tAD _ _ (UA a o n (t1 _ _ (U8 a o n (U7 a o n (s6 _ _ (s5 _ _ (U4 a o n e)))))))
    have S1D : Same H1 HD := fun x o e => by
      have nx : x ≠ b := fun z => by rw [z, nb] at e; cases e
      exact U1D x o nx (U3 x o nx (s2 _ _ e))
    refine ⟨_, rfl, q4, rfl, ⟨_, SqL.of f4⟩, ?_⟩
    refine for_list (K := K) (xs := [V.ref a0, v2, v1, v3, v4, v5] ++ [v6, V.ref q2, V.ref a0]) (fun j σ H' => ∃ (z6 z7 z8 : Option V), σ = [some (.ref a), some (.int (0 + (i : Int))), some (.ref b), some (.ref a0), some v1, some (.ref q4), z6, z7, z8] ∧ Same HD H') ⟨_, _, _, rfl, Same.refl _⟩ (fun j σ H' _ ⟨_, _, _, _, h⟩ => SqL.of (h _ _ f4)) ?_ ?_
    · rintro j v σ HE hv ⟨z6, z7, z8, rfl, sE⟩
      obtain ⟨d, hd, od⟩ := (hD.same sE).at hv
      refine ⟨_, rfl, v, d, rfl, hd, od.sh, od.nd, od.dep, od.sz, ?_⟩
      refine ⟨_, rfl, v, d, rfl, hd, od.any, fun HF sF => ⟨_, rfl, ?_⟩⟩
      have fin : ∀ HG, Same HF HG → ∃ (z6 z7 z8 : Option V), [some (.ref a), some (.int (0 + (i : Int))), some (.ref b), some (.ref a0), some v1, some (.ref q4), some v, some (.str d.shown), some (if workB d then V.non else V.str "tree")] = [some (.ref a), some (.int (0 + (i : Int))), some (.ref b), some (.ref a0), some v1, some (.ref q4), z6, z7, z8] ∧ Same HD HG := fun HG sG => ⟨_, _, _, rfl, sE.trans (sF.trans sG)⟩
      have eN : ∀ x : V, (!decide (x = x)) = false := fun x => by rw [decide_eq_true rfl]; rfl
      cases hw : workB d with
      | true =>
        rw [hw] at fin
        refine iteT ?_
        refine ⟨_, rfl, v, d, rfl, hd.same sF, od.any, fun HG sG => ?_⟩
        rw [hw, if_pos rfl]
        refine ⟨_, rfl, rfl, _, rfl, ?_⟩
        rw [eN]
        refine iteF ?_
        refine ⟨_, rfl, v, d, rfl, hd.same (sF.trans sG), od.sh, od.nd, od.dep, od.sz, ?_⟩
        refine ⟨_, rfl, rfl, _, rfl, ?_⟩
        rw [eN]
        exact iteF (fin HG sG)
      | false =>
        rw [hw] at fin
        refine iteF ?_
        refine ⟨_, rfl, v, d, rfl, hd.same sF, od.any, fun HG sG => ?_⟩
        rw [hw, if_neg Bool.false_ne_true]
        refine ⟨_, rfl, rfl, _, rfl, ?_⟩
        rw [eN]
        refine iteF ?_
        refine ⟨_, rfl, v, d, rfl, hd.same (sF.trans sG), od.sh, od.nd, od.dep, od.sz, ?_⟩
        refine ⟨_, rfl, rfl, _, rfl, ?_⟩
        rw [eN]
        exact iteF (fin HG sG)
    · rintro σ HE ⟨z6, z7, z8, rfl, sE⟩
      exact ⟨_, _, _, _, _, _, _, _, rfl, sH.trans (S1D.trans sE)⟩
  · rintro σ H1 ⟨y1, y2, y3, y4, y5, y6, y7, y8, rfl, sH⟩
    refine ⟨rfl, fun p xs ds H2 s2 np hp hD ho h1000 => ?_⟩
    refine ⟨p, rfl, ⟨_, SqL.of hp⟩, ?_⟩
    intro C hC
    have hl := hD.len
    refine lc_list (K := K) (a := p) (xs := xs) (fun j H' => H' C = some (.lst ((List.replicate j true).map V.bl)) ∧ Same H2 H') ⟨upd_same, same_new hC _⟩ (fun j H' _ h => SqL.of (h.2 _ _ hp)) ?_ ?_
    · rintro j v H3 hv ⟨hC3, s3⟩
      obtain ⟨d, ed, hd⟩ := hD.get hv
      have od := ho d (List.mem_of_getElem? ed)
      refine ⟨rfl, ?_⟩
      refine ⟨_, rfl, v, d, rfl, hd.same s3, od, fun H4 s4 => ?_⟩
      refine ⟨_, rfl, v, d, rfl, hd.same (s3.trans s4), od, fun H5 s5 => ⟨_, rfl, ?_⟩⟩
      have hj : j < ds.length := (List.getElem?_eq_some_iff.mp ed).1
      have fin : ∃ acc, H5 C = some (HO.lst acc) ∧ acc.length < sizeLine ∧ upd H5 C (HO.lst (acc ++ [V.bl true])) C = some (HO.lst ((List.replicate (j + 1) true).map V.bl)) ∧ Same H2 (upd H5 C (HO.lst (acc ++ [V.bl true]))) := by
        refine ⟨_, (s4.trans s5) _ _ hC3, by rw [List.length_map, List.length_replicate]; omega, ?_, ?_⟩
        · rw [upd_same, List.replicate_succ', List.map_append]
          rfl
        · intro x o zz
          rw [upd_ne (ne_of_none zz hC)]
          exact (s4.trans s5) _ _ (s3 _ _ zz)
      have eN : ∀ x : V, decide (x = x) = true := fun x => decide_eq_true rfl
      cases hw : workB d with
      | true =>
        refine iteT ⟨rfl, ?_⟩
        rw [if_pos rfl, eN]
        exact fin
      | false =>
        refine iteF ⟨rfl, ?_⟩
        rw [if_neg Bool.false_ne_true, eN]
        exact fin
    · rintro H3 ⟨hC3, s3⟩
      refine ⟨C, _, rfl, SqL.of hC3, ?_⟩
      rw [all_true]
      exact q H3
end
end SH

set_option Elab.async false
set_option linter.all false
set_option maxRecDepth 100000
namespace SH
open PySem L2
section
variable {K : PySem.W.Frag} {f : Addr} {fd : FuncData}
/-- is_expression(x): the default fills up -/
theorem isEx_dflt (F : FunD K "is_expression" "is_expression" (defArgs sIsEx) (defBody sIsEx) (defScope sIsEx) [.int 6] [] f fd) : (∃ ds, Vals [V.int 6] ds ∧ Binds K fd ["thing", "deepest"] ds) ∧ Binds K fd ["thing", "deepest"] [] := by
  have one := F.binds1 (ps := ["thing", "deepest"]) 1 0 (by simp) rfl fun T kV doc pm an cdv ct us its h1 h2 => match us, its, h1, h2 with | [_], [_], _, _ => ⟨_, rfl, rfl⟩
  obtain ⟨ds, v, b⟩ := F.binds1 (ps := ["thing", "deepest"]) 2 1 (by simp) rfl fun T kV doc pm an cdv ct us its h1 h2 => match us, its, h1, h2 with | [_, _], [_], _, _ => ⟨_, rfl, rfl⟩
  have e : ds = [] := by
    cases v
    rfl
  exact ⟨one, e ▸ b⟩
end
end SH

set_option Elab.async false
set_option linter.all false
set_option maxRecDepth 100000
namespace SH
open PySem PySem.Spec PyProof.Rows L2
/-- a law: F gives the part of the heap, the function object, the promise over every base -/
theorem walk_GE {l : PySem.W.OpenLaw} {k : Nat} {q : Program} {loose : List PySem.Str} {XP : (PySem.Str → Option Value) → Heap → Prop} {YP : World → Heap → Prop} {d : DefRec} {sp : PySem.W.Frag → Sp} (most : l.most = some 63) (nodf : d.params.defaults = []) (room : Room k callerA)
    (F : ∀ (w : World) (mg : PySem.Str → Option Value) (fa : Addr) (h : Heap), YP w h → h.Ns mainGlobals mg → mg d.name = some (.ref fa) → ∃ K : PySem.W.Frag, K.In h ∧
      ∃ fd : FuncData, (∀ (s : Shared) (u : Value), BindsTo s fd ⟨[u], []⟩ [("_law_script", u)]) ∧ ∀ base : Heap, K.In base → base.Ns mainGlobals mg → FnG l.prog w K mg base k fa fd ["_law_script"] (sp K))
    (hsp : ∀ (K : PySem.W.Frag) (H : Hp) (a : Addr) (ns : List Int), ns.length ≤ 63 → SqL K H a (ns.map V.int) → sp K [.ref a] H (fun v _ => v = .bl true) E0) :
    PySem.W.WalkO q loose XP YP l.row.toRowW d [] (fun f vs => PySem.call f vs) := by
  refine Att.attach_call most nodf fun w s₀ s₁ mg mb fa o pm cd doc a vs ns G Y ho hd hcd hmg hobj hints hlen hg => ?_
  obtain ⟨K, KX, fd, hb, hF⟩ := F w mg fa _ Y G.T.g hmg
  obtain ⟨H, base, sq, env, kb, nb, out⟩ := law_begin (P := l.prog) (w := w) KX G.T.g G.T.b G.T.builtins G.T.nolimit hg hobj hints (Nat.le_trans hlen (by decide))
  exact codeAny_mono ((hF base kb nb).run callerA [] s₁ H ⟨[.ref a], []⟩ [.ref a] [.ref a] _ _ rfl room env (hb s₁ (.ref a)) (.cons rfl .nil) (hsp _ H a ns hlen sq)) out
end SH

set_option Elab.async false
set_option linter.all false
set_option maxRecDepth 100000
namespace SH
open PySem L2
set_option maxHeartbeats 8000000
theorem all_mk {l : PySem.W.OpenLaw} {w : World} {K : PySem.W.Frag} {h : Heap} {mg : Str → Option Value} {fa f_check_work f_is_work f_is_tuple_of f_is_whole f_is_whole_within f_is_name f_are_names f_is_expression f_is_leaf f_are_expressions f_rows_left f_row_left f_branches_left f_is_if_head f_is_plain_row f_Lbag f_Ltake f_Lkept f_Lnames f_Lnumber f_Ltree f_Lrow f_Lrows f_Lworks f_Lany f_Lspoilt f_Lwhole f_Lis_name f_Ldeep f_Lis_list f_Lis_tree f_Lcount f_Lrow_count f_Lis_work f_Lrefusal f_Lsaid f_Ltwin f_Ldeeper f_Ledges f_law : Addr} (X : K.In h) (G : h.Ns mainGlobals mg) (hfa : mg "law" = some (.ref fa))
    {od_check_work od_is_work od_is_tuple_of od_is_whole od_is_whole_within od_is_name od_are_names od_is_expression od_is_leaf od_are_expressions od_rows_left od_row_left od_branches_left od_is_if_head od_is_plain_row od_Lbag od_Ltake od_Lkept od_Lnames od_Lnumber od_Ltree od_Lrow od_Lrows od_Lworks od_Lany od_Lspoilt od_Lwhole od_Lis_name od_Ldeep od_Lis_list od_Lis_tree od_Lcount od_Lrow_count od_Lis_work od_Lrefusal od_Lsaid od_Ltwin od_Ldeeper od_Ledges od_law an_check_work an_is_work an_is_tuple_of an_is_whole an_is_whole_within an_is_name an_are_names an_is_expression an_is_leaf an_are_expressions an_rows_left an_row_left an_branches_left an_is_if_head an_is_plain_row an_Lbag an_Ltake an_Lkept an_Lnames an_Lnumber an_Ltree an_Lrow an_Lrows an_Lworks an_Lany an_Lspoilt an_Lwhole an_Lis_name an_Ldeep an_Lis_list an_Lis_tree an_Lcount an_Lrow_count an_Lis_work an_Lrefusal an_Lsaid an_Ltwin an_Ldeeper an_Ledges an_law : Option Addr} {sl_check_work sl_is_work sl_is_tuple_of sl_is_whole sl_is_whole_within sl_is_name sl_are_names sl_is_expression sl_is_leaf sl_are_expressions sl_rows_left sl_row_left sl_branches_left sl_is_if_head sl_is_plain_row sl_Lbag sl_Ltake sl_Lkept sl_Lnames sl_Lnumber sl_Ltree sl_Lrow sl_Lrows sl_Lworks sl_Lany sl_Lspoilt sl_Lwhole sl_Lis_name sl_Ldeep sl_Lis_list sl_Lis_tree sl_Lcount sl_Lrow_count sl_Lis_work sl_Lrefusal sl_Lsaid sl_Ltwin sl_Ldeeper sl_Ledges sl_law : Array (Option Value)} {oc_check_work oc_is_work oc_is_tuple_of oc_is_whole oc_is_whole_within oc_is_name oc_are_names oc_is_expression oc_is_leaf oc_are_expressions oc_rows_left oc_row_left oc_branches_left oc_is_if_head oc_is_plain_row oc_Lbag oc_Ltake oc_Lkept oc_Lnames oc_Lnumber oc_Ltree oc_Lrow oc_Lrows oc_Lworks oc_Lany oc_Lspoilt oc_Lwhole oc_Lis_name oc_Ldeep oc_Lis_list oc_Lis_tree oc_Lcount oc_Lrow_count oc_Lis_work oc_Lrefusal oc_Lsaid oc_Ltwin oc_Ldeeper oc_Ledges oc_law kV_check_work kV_is_work kV_is_tuple_of kV_is_whole kV_is_whole_within kV_is_name kV_are_names kV_is_expression kV_is_leaf kV_are_expressions kV_rows_left kV_row_left kV_branches_left kV_is_if_head kV_is_plain_row kV_Lbag kV_Ltake kV_Lkept kV_Lnames kV_Lnumber kV_Ltree kV_Lrow kV_Lrows kV_Lworks kV_Lany kV_Lspoilt kV_Lwhole kV_Lis_name kV_Ldeep kV_Lis_list kV_Lis_tree kV_Lcount kV_Lrow_count kV_Lis_work kV_Lrefusal kV_Lsaid kV_Ltwin kV_Ldeeper kV_Ledges kV_law dc_check_work dc_is_work dc_is_tuple_of dc_is_whole dc_is_whole_within dc_is_name dc_are_names dc_is_expression dc_is_leaf dc_are_expressions dc_rows_left dc_row_left dc_branches_left dc_is_if_head dc_is_plain_row dc_Lbag dc_Ltake dc_Lkept dc_Lnames dc_Lnumber dc_Ltree dc_Lrow dc_Lrows dc_Lworks dc_Lany dc_Lspoilt dc_Lwhole dc_Lis_name dc_Ldeep dc_Lis_list dc_Lis_tree dc_Lcount dc_Lrow_count dc_Lis_work dc_Lrefusal dc_Lsaid dc_Ltwin dc_Ldeeper dc_Ledges dc_law pm_check_work pm_is_work pm_is_tuple_of pm_is_whole pm_is_whole_within pm_is_name pm_are_names pm_is_expression pm_is_leaf pm_are_expressions pm_rows_left pm_row_left pm_branches_left pm_is_if_head pm_is_plain_row pm_Lbag pm_Ltake pm_Lkept pm_Lnames pm_Lnumber pm_Ltree pm_Lrow pm_Lrows pm_Lworks pm_Lany pm_Lspoilt pm_Lwhole pm_Lis_name pm_Ldeep pm_Lis_list pm_Lis_tree pm_Lcount pm_Lrow_count pm_Lis_work pm_Lrefusal pm_Lsaid pm_Ltwin pm_Ldeeper pm_Ledges pm_law cd_check_work cd_is_work cd_is_tuple_of cd_is_whole cd_is_whole_within cd_is_name cd_are_names cd_is_expression cd_is_leaf cd_are_expressions cd_rows_left cd_row_left cd_branches_left cd_is_if_head cd_is_plain_row cd_Lbag cd_Ltake cd_Lkept cd_Lnames cd_Lnumber cd_Ltree cd_Lrow cd_Lrows cd_Lworks cd_Lany cd_Lspoilt cd_Lwhole cd_Lis_name cd_Ldeep cd_Lis_list cd_Lis_tree cd_Lcount cd_Lrow_count cd_Lis_work cd_Lrefusal cd_Lsaid cd_Ltwin cd_Ldeeper cd_Ledges cd_law ct_check_work ct_is_work ct_is_tuple_of ct_is_whole ct_is_whole_within ct_is_name ct_are_names ct_is_expression ct_is_leaf ct_are_expressions ct_rows_left ct_row_left ct_branches_left ct_is_if_head ct_is_plain_row ct_Lbag ct_Ltake ct_Lkept ct_Lnames ct_Lnumber ct_Ltree ct_Lrow ct_Lrows ct_Lworks ct_Lany ct_Lspoilt ct_Lwhole ct_Lis_name ct_Ldeep ct_Lis_list ct_Lis_tree ct_Lcount ct_Lrow_count ct_Lis_work ct_Lrefusal ct_Lsaid ct_Ltwin ct_Ldeeper ct_Ledges ct_law : Value}
    {TD : Addr} {oTD : Obj} {iTD : List Value} {nTD : Nat}
    (a_check_work : PySem.W.nsIn K mainGlobals "check_work" = some (some (.ref f_check_work))) (l_check_work : K.lookup f_check_work = some ⟨oc_check_work, od_check_work, .func (PySem.W.fnOf "check_work" "check_work" (defArgs sChkWork) (defBody sChkWork) (defScope sChkWork) .none kV_check_work dc_check_work pm_check_work an_check_work cd_check_work ct_check_work), sl_check_work⟩) (c_check_work : PySem.W.codeIn K cd_check_work "check_work" = true) (k_check_work : PySem.W.keepIn K (.ref f_check_work) = true)
    (a_is_work : PySem.W.nsIn K mainGlobals "is_work" = some (some (.ref f_is_work))) (l_is_work : K.lookup f_is_work = some ⟨oc_is_work, od_is_work, .func (PySem.W.fnOf "is_work" "is_work" (defArgs sIsWork) (defBody sIsWork) (defScope sIsWork) .none kV_is_work dc_is_work pm_is_work an_is_work cd_is_work ct_is_work), sl_is_work⟩) (c_is_work : PySem.W.codeIn K cd_is_work "is_work" = true) (k_is_work : PySem.W.keepIn K (.ref f_is_work) = true)
    (a_is_tuple_of : PySem.W.nsIn K mainGlobals "is_tuple_of" = some (some (.ref f_is_tuple_of))) (l_is_tuple_of : K.lookup f_is_tuple_of = some ⟨oc_is_tuple_of, od_is_tuple_of, .func (PySem.W.fnOf "is_tuple_of" "is_tuple_of" (defArgs sTupOf) (defBody sTupOf) (defScope sTupOf) .none kV_is_tuple_of dc_is_tuple_of pm_is_tuple_of an_is_tuple_of cd_is_tuple_of ct_is_tuple_of), sl_is_tuple_of⟩) (c_is_tuple_of : PySem.W.codeIn K cd_is_tuple_of "is_tuple_of" = true) (k_is_tuple_of : PySem.W.keepIn K (.ref f_is_tuple_of) = true)
    (a_is_whole : PySem.W.nsIn K mainGlobals "is_whole" = some (some (.ref f_is_whole))) (l_is_whole : K.lookup f_is_whole = some ⟨oc_is_whole, od_is_whole, .func (PySem.W.fnOf "is_whole" "is_whole" (defArgs sWhole) (defBody sWhole) (defScope sWhole) .none kV_is_whole dc_is_whole pm_is_whole an_is_whole cd_is_whole ct_is_whole), sl_is_whole⟩) (c_is_whole : PySem.W.codeIn K cd_is_whole "is_whole" = true) (k_is_whole : PySem.W.keepIn K (.ref f_is_whole) = true)
    (a_is_whole_within : PySem.W.nsIn K mainGlobals "is_whole_within" = some (some (.ref f_is_whole_within))) (l_is_whole_within : K.lookup f_is_whole_within = some ⟨oc_is_whole_within, od_is_whole_within, .func (PySem.W.fnOf "is_whole_within" "is_whole_within" (defArgs sWithin) (defBody sWithin) (defScope sWithin) .none kV_is_whole_within dc_is_whole_within pm_is_whole_within an_is_whole_within cd_is_whole_within ct_is_whole_within), sl_is_whole_within⟩) (c_is_whole_within : PySem.W.codeIn K cd_is_whole_within "is_whole_within" = true) (k_is_whole_within : PySem.W.keepIn K (.ref f_is_whole_within) = true)
    (a_is_name : PySem.W.nsIn K mainGlobals "is_name" = some (some (.ref f_is_name))) (l_is_name : K.lookup f_is_name = some ⟨oc_is_name, od_is_name, .func (PySem.W.fnOf "is_name" "is_name" (defArgs sIsName) (defBody sIsName) (defScope sIsName) .none kV_is_name dc_is_name pm_is_name an_is_name cd_is_name ct_is_name), sl_is_name⟩) (c_is_name : PySem.W.codeIn K cd_is_name "is_name" = true) (k_is_name : PySem.W.keepIn K (.ref f_is_name) = true)
    (a_are_names : PySem.W.nsIn K mainGlobals "are_names" = some (some (.ref f_are_names))) (l_are_names : K.lookup f_are_names = some ⟨oc_are_names, od_are_names, .func (PySem.W.fnOf "are_names" "are_names" (defArgs sAreNames) (defBody sAreNames) (defScope sAreNames) .none kV_are_names dc_are_names pm_are_names an_are_names cd_are_names ct_are_names), sl_are_names⟩) (c_are_names : PySem.W.codeIn K cd_are_names "are_names" = true) (k_are_names : PySem.W.keepIn K (.ref f_are_names) = true)
    (a_is_expression : PySem.W.nsIn K mainGlobals "is_expression" = some (some (.ref f_is_expression))) (l_is_expression : K.lookup f_is_expression = some ⟨oc_is_expression, od_is_expression, .func (PySem.W.fnOf "is_expression" "is_expression" (defArgs sIsEx) (defBody sIsEx) (defScope sIsEx) (.ref TD) kV_is_expression dc_is_expression pm_is_expression an_is_expression cd_is_expression ct_is_expression), sl_is_expression⟩) (c_is_expression : PySem.W.codeIn K cd_is_expression "is_expression" = true) (k_is_expression : PySem.W.keepIn K (.ref f_is_expression) = true)
    (a_is_leaf : PySem.W.nsIn K mainGlobals "is_leaf" = some (some (.ref f_is_leaf))) (l_is_leaf : K.lookup f_is_leaf = some ⟨oc_is_leaf, od_is_leaf, .func (PySem.W.fnOf "is_leaf" "is_leaf" (defArgs sLeaf) (defBody sLeaf) (defScope sLeaf) .none kV_is_leaf dc_is_leaf pm_is_leaf an_is_leaf cd_is_leaf ct_is_leaf), sl_is_leaf⟩) (c_is_leaf : PySem.W.codeIn K cd_is_leaf "is_leaf" = true) (k_is_leaf : PySem.W.keepIn K (.ref f_is_leaf) = true)
    (a_are_expressions : PySem.W.nsIn K mainGlobals "are_expressions" = some (some (.ref f_are_expressions))) (l_are_expressions : K.lookup f_are_expressions = some ⟨oc_are_expressions, od_are_expressions, .func (PySem.W.fnOf "are_expressions" "are_expressions" (defArgs sAreEx) (defBody sAreEx) (defScope sAreEx) .none kV_are_expressions dc_are_expressions pm_are_expressions an_are_expressions cd_are_expressions ct_are_expressions), sl_are_expressions⟩) (c_are_expressions : PySem.W.codeIn K cd_are_expressions "are_expressions" = true) (k_are_expressions : PySem.W.keepIn K (.ref f_are_expressions) = true)
    (a_rows_left : PySem.W.nsIn K mainGlobals "rows_left" = some (some (.ref f_rows_left))) (l_rows_left : K.lookup f_rows_left = some ⟨oc_rows_left, od_rows_left, .func (PySem.W.fnOf "rows_left" "rows_left" (defArgs sRowsL) (defBody sRowsL) (defScope sRowsL) .none kV_rows_left dc_rows_left pm_rows_left an_rows_left cd_rows_left ct_rows_left), sl_rows_left⟩) (c_rows_left : PySem.W.codeIn K cd_rows_left "rows_left" = true) (k_rows_left : PySem.W.keepIn K (.ref f_rows_left) = true)
    (a_row_left : PySem.W.nsIn K mainGlobals "row_left" = some (some (.ref f_row_left))) (l_row_left : K.lookup f_row_left = some ⟨oc_row_left, od_row_left, .func (PySem.W.fnOf "row_left" "row_left" (defArgs sRowL) (defBody sRowL) (defScope sRowL) .none kV_row_left dc_row_left pm_row_left an_row_left cd_row_left ct_row_left), sl_row_left⟩) (c_row_left : PySem.W.codeIn K cd_row_left "row_left" = true) (k_row_left : PySem.W.keepIn K (.ref f_row_left) = true)
    (a_branches_left : PySem.W.nsIn K mainGlobals "branches_left" = some (some (.ref f_branches_left))) (l_branches_left : K.lookup f_branches_left = some ⟨oc_branches_left, od_branches_left, .func (PySem.W.fnOf "branches_left" "branches_left" (defArgs sBranL) (defBody sBranL) (defScope sBranL) .none kV_branches_left dc_branches_left pm_branches_left an_branches_left cd_branches_left ct_branches_left), sl_branches_left⟩) (c_branches_left : PySem.W.codeIn K cd_branches_left "branches_left" = true) (k_branches_left : PySem.W.keepIn K (.ref f_branches_left) = true)
    (a_is_if_head : PySem.W.nsIn K mainGlobals "is_if_head" = some (some (.ref f_is_if_head))) (l_is_if_head : K.lookup f_is_if_head = some ⟨oc_is_if_head, od_is_if_head, .func (PySem.W.fnOf "is_if_head" "is_if_head" (defArgs sIfHead) (defBody sIfHead) (defScope sIfHead) .none kV_is_if_head dc_is_if_head pm_is_if_head an_is_if_head cd_is_if_head ct_is_if_head), sl_is_if_head⟩) (c_is_if_head : PySem.W.codeIn K cd_is_if_head "is_if_head" = true) (k_is_if_head : PySem.W.keepIn K (.ref f_is_if_head) = true)
    (a_is_plain_row : PySem.W.nsIn K mainGlobals "is_plain_row" = some (some (.ref f_is_plain_row))) (l_is_plain_row : K.lookup f_is_plain_row = some ⟨oc_is_plain_row, od_is_plain_row, .func (PySem.W.fnOf "is_plain_row" "is_plain_row" (defArgs sPlain) (defBody sPlain) (defScope sPlain) .none kV_is_plain_row dc_is_plain_row pm_is_plain_row an_is_plain_row cd_is_plain_row ct_is_plain_row), sl_is_plain_row⟩) (c_is_plain_row : PySem.W.codeIn K cd_is_plain_row "is_plain_row" = true) (k_is_plain_row : PySem.W.keepIn K (.ref f_is_plain_row) = true)
    (a_Lbag : PySem.W.nsIn K mainGlobals "_law_bag" = some (some (.ref f_Lbag))) (l_Lbag : K.lookup f_Lbag = some ⟨oc_Lbag, od_Lbag, .func (PySem.W.fnOf "_law_bag" "_law_bag" (defArgs sBag) (defBody sBag) (defScope sBag) .none kV_Lbag dc_Lbag pm_Lbag an_Lbag cd_Lbag ct_Lbag), sl_Lbag⟩) (c_Lbag : PySem.W.codeIn K cd_Lbag "_law_bag" = true) (k_Lbag : PySem.W.keepIn K (.ref f_Lbag) = true)
    (a_Ltake : PySem.W.nsIn K mainGlobals "_law_take" = some (some (.ref f_Ltake))) (l_Ltake : K.lookup f_Ltake = some ⟨oc_Ltake, od_Ltake, .func (PySem.W.fnOf "_law_take" "_law_take" (defArgs sTake) (defBody sTake) (defScope sTake) .none kV_Ltake dc_Ltake pm_Ltake an_Ltake cd_Ltake ct_Ltake), sl_Ltake⟩) (c_Ltake : PySem.W.codeIn K cd_Ltake "_law_take" = true) (k_Ltake : PySem.W.keepIn K (.ref f_Ltake) = true)
    (a_Lkept : PySem.W.nsIn K mainGlobals "_law_kept" = some (some (.ref f_Lkept))) (l_Lkept : K.lookup f_Lkept = some ⟨oc_Lkept, od_Lkept, .func (PySem.W.fnOf "_law_kept" "_law_kept" (defArgs sKept) (defBody sKept) (defScope sKept) .none kV_Lkept dc_Lkept pm_Lkept an_Lkept cd_Lkept ct_Lkept), sl_Lkept⟩) (c_Lkept : PySem.W.codeIn K cd_Lkept "_law_kept" = true) (k_Lkept : PySem.W.keepIn K (.ref f_Lkept) = true)
    (a_Lnames : PySem.W.nsIn K mainGlobals "_law_names" = some (some (.ref f_Lnames))) (l_Lnames : K.lookup f_Lnames = some ⟨oc_Lnames, od_Lnames, .func (PySem.W.fnOf "_law_names" "_law_names" (defArgs sNames) (defBody sNames) (defScope sNames) .none kV_Lnames dc_Lnames pm_Lnames an_Lnames cd_Lnames ct_Lnames), sl_Lnames⟩) (c_Lnames : PySem.W.codeIn K cd_Lnames "_law_names" = true) (k_Lnames : PySem.W.keepIn K (.ref f_Lnames) = true)
    (a_Lnumber : PySem.W.nsIn K mainGlobals "_law_number" = some (some (.ref f_Lnumber))) (l_Lnumber : K.lookup f_Lnumber = some ⟨oc_Lnumber, od_Lnumber, .func (PySem.W.fnOf "_law_number" "_law_number" (defArgs sNumber) (defBody sNumber) (defScope sNumber) .none kV_Lnumber dc_Lnumber pm_Lnumber an_Lnumber cd_Lnumber ct_Lnumber), sl_Lnumber⟩) (c_Lnumber : PySem.W.codeIn K cd_Lnumber "_law_number" = true) (k_Lnumber : PySem.W.keepIn K (.ref f_Lnumber) = true)
    (a_Ltree : PySem.W.nsIn K mainGlobals "_law_tree" = some (some (.ref f_Ltree))) (l_Ltree : K.lookup f_Ltree = some ⟨oc_Ltree, od_Ltree, .func (PySem.W.fnOf "_law_tree" "_law_tree" (defArgs sTree) (defBody sTree) (defScope sTree) .none kV_Ltree dc_Ltree pm_Ltree an_Ltree cd_Ltree ct_Ltree), sl_Ltree⟩) (c_Ltree : PySem.W.codeIn K cd_Ltree "_law_tree" = true) (k_Ltree : PySem.W.keepIn K (.ref f_Ltree) = true)
    (a_Lrow : PySem.W.nsIn K mainGlobals "_law_row" = some (some (.ref f_Lrow))) (l_Lrow : K.lookup f_Lrow = some ⟨oc_Lrow, od_Lrow, .func (PySem.W.fnOf "_law_row" "_law_row" (defArgs sRow) (defBody sRow) (defScope sRow) .none kV_Lrow dc_Lrow pm_Lrow an_Lrow cd_Lrow ct_Lrow), sl_Lrow⟩) (c_Lrow : PySem.W.codeIn K cd_Lrow "_law_row" = true) (k_Lrow : PySem.W.keepIn K (.ref f_Lrow) = true)
    (a_Lrows : PySem.W.nsIn K mainGlobals "_law_rows" = some (some (.ref f_Lrows))) (l_Lrows : K.lookup f_Lrows = some ⟨oc_Lrows, od_Lrows, .func (PySem.W.fnOf "_law_rows" "_law_rows" (defArgs sRows) (defBody sRows) (defScope sRows) .none kV_Lrows dc_Lrows pm_Lrows an_Lrows cd_Lrows ct_Lrows), sl_Lrows⟩) (c_Lrows : PySem.W.codeIn K cd_Lrows "_law_rows" = true) (k_Lrows : PySem.W.keepIn K (.ref f_Lrows) = true)
    (a_Lworks : PySem.W.nsIn K mainGlobals "_law_works" = some (some (.ref f_Lworks))) (l_Lworks : K.lookup f_Lworks = some ⟨oc_Lworks, od_Lworks, .func (PySem.W.fnOf "_law_works" "_law_works" (defArgs sWorks) (defBody sWorks) (defScope sWorks) .none kV_Lworks dc_Lworks pm_Lworks an_Lworks cd_Lworks ct_Lworks), sl_Lworks⟩) (c_Lworks : PySem.W.codeIn K cd_Lworks "_law_works" = true) (k_Lworks : PySem.W.keepIn K (.ref f_Lworks) = true)
    (a_Lany : PySem.W.nsIn K mainGlobals "_law_any" = some (some (.ref f_Lany))) (l_Lany : K.lookup f_Lany = some ⟨oc_Lany, od_Lany, .func (PySem.W.fnOf "_law_any" "_law_any" (defArgs sAnyL) (defBody sAnyL) (defScope sAnyL) .none kV_Lany dc_Lany pm_Lany an_Lany cd_Lany ct_Lany), sl_Lany⟩) (c_Lany : PySem.W.codeIn K cd_Lany "_law_any" = true) (k_Lany : PySem.W.keepIn K (.ref f_Lany) = true)
    (a_Lspoilt : PySem.W.nsIn K mainGlobals "_law_spoilt" = some (some (.ref f_Lspoilt))) (l_Lspoilt : K.lookup f_Lspoilt = some ⟨oc_Lspoilt, od_Lspoilt, .func (PySem.W.fnOf "_law_spoilt" "_law_spoilt" (defArgs sSpoil) (defBody sSpoil) (defScope sSpoil) .none kV_Lspoilt dc_Lspoilt pm_Lspoilt an_Lspoilt cd_Lspoilt ct_Lspoilt), sl_Lspoilt⟩) (c_Lspoilt : PySem.W.codeIn K cd_Lspoilt "_law_spoilt" = true) (k_Lspoilt : PySem.W.keepIn K (.ref f_Lspoilt) = true)
    (a_Lwhole : PySem.W.nsIn K mainGlobals "_law_whole" = some (some (.ref f_Lwhole))) (l_Lwhole : K.lookup f_Lwhole = some ⟨oc_Lwhole, od_Lwhole, .func (PySem.W.fnOf "_law_whole" "_law_whole" (defArgs sLWh) (defBody sLWh) (defScope sLWh) .none kV_Lwhole dc_Lwhole pm_Lwhole an_Lwhole cd_Lwhole ct_Lwhole), sl_Lwhole⟩) (c_Lwhole : PySem.W.codeIn K cd_Lwhole "_law_whole" = true) (k_Lwhole : PySem.W.keepIn K (.ref f_Lwhole) = true)
    (a_Lis_name : PySem.W.nsIn K mainGlobals "_law_is_name" = some (some (.ref f_Lis_name))) (l_Lis_name : K.lookup f_Lis_name = some ⟨oc_Lis_name, od_Lis_name, .func (PySem.W.fnOf "_law_is_name" "_law_is_name" (defArgs sLNm) (defBody sLNm) (defScope sLNm) .none kV_Lis_name dc_Lis_name pm_Lis_name an_Lis_name cd_Lis_name ct_Lis_name), sl_Lis_name⟩) (c_Lis_name : PySem.W.codeIn K cd_Lis_name "_law_is_name" = true) (k_Lis_name : PySem.W.keepIn K (.ref f_Lis_name) = true)
    (a_Ldeep : PySem.W.nsIn K mainGlobals "_law_deep" = some (some (.ref f_Ldeep))) (l_Ldeep : K.lookup f_Ldeep = some ⟨oc_Ldeep, od_Ldeep, .func (PySem.W.fnOf "_law_deep" "_law_deep" (defArgs sDeepL) (defBody sDeepL) (defScope sDeepL) .none kV_Ldeep dc_Ldeep pm_Ldeep an_Ldeep cd_Ldeep ct_Ldeep), sl_Ldeep⟩) (c_Ldeep : PySem.W.codeIn K cd_Ldeep "_law_deep" = true) (k_Ldeep : PySem.W.keepIn K (.ref f_Ldeep) = true)
    (a_Lis_list : PySem.W.nsIn K mainGlobals "_law_is_list" = some (some (.ref f_Lis_list))) (l_Lis_list : K.lookup f_Lis_list = some ⟨oc_Lis_list, od_Lis_list, .func (PySem.W.fnOf "_law_is_list" "_law_is_list" (defArgs sListL) (defBody sListL) (defScope sListL) .none kV_Lis_list dc_Lis_list pm_Lis_list an_Lis_list cd_Lis_list ct_Lis_list), sl_Lis_list⟩) (c_Lis_list : PySem.W.codeIn K cd_Lis_list "_law_is_list" = true) (k_Lis_list : PySem.W.keepIn K (.ref f_Lis_list) = true)
    (a_Lis_tree : PySem.W.nsIn K mainGlobals "_law_is_tree" = some (some (.ref f_Lis_tree))) (l_Lis_tree : K.lookup f_Lis_tree = some ⟨oc_Lis_tree, od_Lis_tree, .func (PySem.W.fnOf "_law_is_tree" "_law_is_tree" (defArgs sTreeL) (defBody sTreeL) (defScope sTreeL) .none kV_Lis_tree dc_Lis_tree pm_Lis_tree an_Lis_tree cd_Lis_tree ct_Lis_tree), sl_Lis_tree⟩) (c_Lis_tree : PySem.W.codeIn K cd_Lis_tree "_law_is_tree" = true) (k_Lis_tree : PySem.W.keepIn K (.ref f_Lis_tree) = true)
    (a_Lcount : PySem.W.nsIn K mainGlobals "_law_count" = some (some (.ref f_Lcount))) (l_Lcount : K.lookup f_Lcount = some ⟨oc_Lcount, od_Lcount, .func (PySem.W.fnOf "_law_count" "_law_count" (defArgs sCountL) (defBody sCountL) (defScope sCountL) .none kV_Lcount dc_Lcount pm_Lcount an_Lcount cd_Lcount ct_Lcount), sl_Lcount⟩) (c_Lcount : PySem.W.codeIn K cd_Lcount "_law_count" = true) (k_Lcount : PySem.W.keepIn K (.ref f_Lcount) = true)
    (a_Lrow_count : PySem.W.nsIn K mainGlobals "_law_row_count" = some (some (.ref f_Lrow_count))) (l_Lrow_count : K.lookup f_Lrow_count = some ⟨oc_Lrow_count, od_Lrow_count, .func (PySem.W.fnOf "_law_row_count" "_law_row_count" (defArgs sRowCL) (defBody sRowCL) (defScope sRowCL) .none kV_Lrow_count dc_Lrow_count pm_Lrow_count an_Lrow_count cd_Lrow_count ct_Lrow_count), sl_Lrow_count⟩) (c_Lrow_count : PySem.W.codeIn K cd_Lrow_count "_law_row_count" = true) (k_Lrow_count : PySem.W.keepIn K (.ref f_Lrow_count) = true)
    (a_Lis_work : PySem.W.nsIn K mainGlobals "_law_is_work" = some (some (.ref f_Lis_work))) (l_Lis_work : K.lookup f_Lis_work = some ⟨oc_Lis_work, od_Lis_work, .func (PySem.W.fnOf "_law_is_work" "_law_is_work" (defArgs sWorkL) (defBody sWorkL) (defScope sWorkL) .none kV_Lis_work dc_Lis_work pm_Lis_work an_Lis_work cd_Lis_work ct_Lis_work), sl_Lis_work⟩) (c_Lis_work : PySem.W.codeIn K cd_Lis_work "_law_is_work" = true) (k_Lis_work : PySem.W.keepIn K (.ref f_Lis_work) = true)
    (a_Lrefusal : PySem.W.nsIn K mainGlobals "_law_refusal" = some (some (.ref f_Lrefusal))) (l_Lrefusal : K.lookup f_Lrefusal = some ⟨oc_Lrefusal, od_Lrefusal, .func (PySem.W.fnOf "_law_refusal" "_law_refusal" (defArgs sRefusal) (defBody sRefusal) (defScope sRefusal) .none kV_Lrefusal dc_Lrefusal pm_Lrefusal an_Lrefusal cd_Lrefusal ct_Lrefusal), sl_Lrefusal⟩) (c_Lrefusal : PySem.W.codeIn K cd_Lrefusal "_law_refusal" = true) (k_Lrefusal : PySem.W.keepIn K (.ref f_Lrefusal) = true)
    (a_Lsaid : PySem.W.nsIn K mainGlobals "_law_said" = some (some (.ref f_Lsaid))) (l_Lsaid : K.lookup f_Lsaid = some ⟨oc_Lsaid, od_Lsaid, .func (PySem.W.fnOf "_law_said" "_law_said" (defArgs sSaid01) (defBody sSaid01) (defScope sSaid01) .none kV_Lsaid dc_Lsaid pm_Lsaid an_Lsaid cd_Lsaid ct_Lsaid), sl_Lsaid⟩) (c_Lsaid : PySem.W.codeIn K cd_Lsaid "_law_said" = true) (k_Lsaid : PySem.W.keepIn K (.ref f_Lsaid) = true)
    (a_Ltwin : PySem.W.nsIn K mainGlobals "_law_twin" = some (some (.ref f_Ltwin))) (l_Ltwin : K.lookup f_Ltwin = some ⟨oc_Ltwin, od_Ltwin, .func (PySem.W.fnOf "_law_twin" "_law_twin" (defArgs sTwin) (defBody sTwin) (defScope sTwin) .none kV_Ltwin dc_Ltwin pm_Ltwin an_Ltwin cd_Ltwin ct_Ltwin), sl_Ltwin⟩) (c_Ltwin : PySem.W.codeIn K cd_Ltwin "_law_twin" = true) (k_Ltwin : PySem.W.keepIn K (.ref f_Ltwin) = true)
    (a_Ldeeper : PySem.W.nsIn K mainGlobals "_law_deeper" = some (some (.ref f_Ldeeper))) (l_Ldeeper : K.lookup f_Ldeeper = some ⟨oc_Ldeeper, od_Ldeeper, .func (PySem.W.fnOf "_law_deeper" "_law_deeper" (defArgs sDeeper) (defBody sDeeper) (defScope sDeeper) .none kV_Ldeeper dc_Ldeeper pm_Ldeeper an_Ldeeper cd_Ldeeper ct_Ldeeper), sl_Ldeeper⟩) (c_Ldeeper : PySem.W.codeIn K cd_Ldeeper "_law_deeper" = true) (k_Ldeeper : PySem.W.keepIn K (.ref f_Ldeeper) = true)
    (a_Ledges : PySem.W.nsIn K mainGlobals "_law_edges" = some (some (.ref f_Ledges))) (l_Ledges : K.lookup f_Ledges = some ⟨oc_Ledges, od_Ledges, .func (PySem.W.fnOf "_law_edges" "_law_edges" (defArgs sEdges) (defBody sEdges) (defScope sEdges) .none kV_Ledges dc_Ledges pm_Ledges an_Ledges cd_Ledges ct_Ledges), sl_Ledges⟩) (c_Ledges : PySem.W.codeIn K cd_Ledges "_law_edges" = true) (k_Ledges : PySem.W.keepIn K (.ref f_Ledges) = true)
    (a_law : PySem.W.nsIn K mainGlobals "law" = some (some (.ref f_law))) (l_law : K.lookup f_law = some ⟨oc_law, od_law, .func (PySem.W.fnOf "law" "law" (defArgs sLaw) (defBody sLaw) (defScope sLaw) .none kV_law dc_law pm_law an_law cd_law ct_law), sl_law⟩) (c_law : PySem.W.codeIn K cd_law "law" = true) (k_law : PySem.W.keepIn K (.ref f_law) = true)
    (z_len : PySem.W.nsIn K mainGlobals "len" = some none)
    (z_abs : PySem.W.nsIn K mainGlobals "abs" = some none)
    (z_int : PySem.W.nsIn K mainGlobals "int" = some none)
    (z_str : PySem.W.nsIn K mainGlobals "str" = some none)
    (z_range : PySem.W.nsIn K mainGlobals "range" = some none)
    (z_max : PySem.W.nsIn K mainGlobals "max" = some none)
    (z_min : PySem.W.nsIn K mainGlobals "min" = some none)
    (z_isinstance : PySem.W.nsIn K mainGlobals "isinstance" = some none)
    (z_all : PySem.W.nsIn K mainGlobals "all" = some none)
    (z_tuple : PySem.W.nsIn K mainGlobals "tuple" = some none)
    (z_bool : PySem.W.nsIn K mainGlobals "bool" = some none)
    (z_set : PySem.W.nsIn K mainGlobals "set" = some none)
    (z_list : PySem.W.nsIn K mainGlobals "list" = some none)
    (z_repr : PySem.W.nsIn K mainGlobals "repr" = some none)
    (z_sum : PySem.W.nsIn K mainGlobals "sum" = some none)
    (z_ValueError : PySem.W.nsIn K mainGlobals "ValueError" = some none)
    (z_LookupError : PySem.W.nsIn K mainGlobals "LookupError" = some none)
    (z_RuntimeError : PySem.W.nsIn K mainGlobals "RuntimeError" = some none)
    (z_ArithmeticError : PySem.W.nsIn K mainGlobals "ArithmeticError" = some none)
    (z_KeyError : PySem.W.nsIn K mainGlobals "KeyError" = some none)
    (z_IndexError : PySem.W.nsIn K mainGlobals "IndexError" = some none)
    (z_ZeroDivisionError : PySem.W.nsIn K mainGlobals "ZeroDivisionError" = some none)
    {tLt : Tok} (gLt : PySem.W.nsIn K mainGlobals "LETTERS" = some (some (.str "abcdefghijklmnopqrstuvwxyz" tLt)))
    {t_MOST_ROWS t_MOST_NAMES t_MOST_EXPRESSIONS t_MOST_IFS t_MOST_LETTERS t_MOST_ROOM t_MOST_NUMBER t_NO_ROWS : Tok} (g_MOST_ROWS : PySem.W.nsIn K mainGlobals "MOST_ROWS" = some (some (.int 40 t_MOST_ROWS))) (g_MOST_NAMES : PySem.W.nsIn K mainGlobals "MOST_NAMES" = some (some (.int 4 t_MOST_NAMES))) (g_MOST_EXPRESSIONS : PySem.W.nsIn K mainGlobals "MOST_EXPRESSIONS" = some (some (.int 4 t_MOST_EXPRESSIONS))) (g_MOST_IFS : PySem.W.nsIn K mainGlobals "MOST_IFS" = some (some (.int 3 t_MOST_IFS))) (g_MOST_LETTERS : PySem.W.nsIn K mainGlobals "MOST_LETTERS" = some (some (.int 8 t_MOST_LETTERS))) (g_MOST_ROOM : PySem.W.nsIn K mainGlobals "MOST_ROOM" = some (some (.int 1000 t_MOST_ROOM))) (g_MOST_NUMBER : PySem.W.nsIn K mainGlobals "MOST_NUMBER" = some (some (.int 999999999999999999999999999999 t_MOST_NUMBER))) (g_NO_ROWS : PySem.W.nsIn K mainGlobals "NO_ROWS" = some (some (.int (-1) t_NO_ROWS)))
    {aW aS : Addr} {dW dS : Option Addr} {iW iS : List Value} {nW nS : Nat} {sW sS : Array (Option Value)} (gW : PySem.W.nsIn K mainGlobals "WORDS" = some (some (.ref aW)))(lW : K.lookup aW = some ⟨.type "tuple", dW, .seq iW.toArray nW, sW⟩)(vW : Vals (kept.map V.str) iW)(gS : PySem.W.nsIn K mainGlobals "SIGNS" = some (some (.ref aS)))(lS : K.lookup aS = some ⟨.type "tuple", dS, .seq iS.toArray nS, sS⟩)(vS : Vals (signsL.map V.str) iS)
    (lTD : K.lookup TD = some oTD)(oTD0 : oTD.data = .seq iTD.toArray nTD)(vTD : Vals [V.int 6] iTD)
    {cBadText : Addr} (aBadText : PySem.W.nsIn K mainGlobals "BadText" = some (some (.ref cBadText)))
    {cBadTree : Addr} (aBadTree : PySem.W.nsIn K mainGlobals "BadTree" = some (some (.ref cBadTree)))
    {cBadArgs : Addr} (aBadArgs : PySem.W.nsIn K mainGlobals "BadArgs" = some (some (.ref cBadArgs)))
    {cBadHall : Addr} (aBadHall : PySem.W.nsIn K mainGlobals "BadHall" = some (some (.ref cBadHall)))
    {cBadTurn : Addr} (aBadTurn : PySem.W.nsIn K mainGlobals "BadTurn" = some (some (.ref cBadTurn)))
    {cNoRow : Addr} (aNoRow : PySem.W.nsIn K mainGlobals "NoRow" = some (some (.ref cNoRow)))
    {cMissing : Addr} (aMissing : PySem.W.nsIn K mainGlobals "Missing" = some (some (.ref cMissing)))
    {cBare : Addr} (aBare : PySem.W.nsIn K mainGlobals "Bare" = some (some (.ref cBare)))
    {cSpent : Addr} (aSpent : PySem.W.nsIn K mainGlobals "Spent" = some (some (.ref cSpent)))
    {cBroken : Addr} (aBroken : PySem.W.nsIn K mainGlobals "Broken" = some (some (.ref cBroken)))
    {cStealError : Addr} (aStealError : PySem.W.nsIn K mainGlobals "StealError" = some (some (.ref cStealError)))
    (kt_BadTree_BadText : PySem.W.kitOne K (.ref cBadTree) (.ref cBadText) = some false)
    (kt_BadTree_BadTree : PySem.W.kitOne K (.ref cBadTree) (.ref cBadTree) = some true)
    (kt_BadTree_BadArgs : PySem.W.kitOne K (.ref cBadTree) (.ref cBadArgs) = some false)
    (kt_BadTree_BadHall : PySem.W.kitOne K (.ref cBadTree) (.ref cBadHall) = some false)
    (kt_BadTree_BadTurn : PySem.W.kitOne K (.ref cBadTree) (.ref cBadTurn) = some false)
    (kt_BadTree_NoRow : PySem.W.kitOne K (.ref cBadTree) (.ref cNoRow) = some false)
    (kt_BadTree_Missing : PySem.W.kitOne K (.ref cBadTree) (.ref cMissing) = some false)
    (kt_BadTree_Bare : PySem.W.kitOne K (.ref cBadTree) (.ref cBare) = some false)
    (kt_BadTree_Spent : PySem.W.kitOne K (.ref cBadTree) (.ref cSpent) = some false)
    (kt_BadTree_Broken : PySem.W.kitOne K (.ref cBadTree) (.ref cBroken) = some false)
    (kt_BadTree_StealError : PySem.W.kitOne K (.ref cBadTree) (.ref cStealError) = some true)
    (kt_BadTree_ValueError : PySem.W.kitOne K (.ref cBadTree) (.type "ValueError") = some true)
    (kt_BadTree_LookupError : PySem.W.kitOne K (.ref cBadTree) (.type "LookupError") = some false)
    (kt_BadTree_RuntimeError : PySem.W.kitOne K (.ref cBadTree) (.type "RuntimeError") = some false)
    (kt_BadTree_ArithmeticError : PySem.W.kitOne K (.ref cBadTree) (.type "ArithmeticError") = some false)
    (kt_BadTree_KeyError : PySem.W.kitOne K (.ref cBadTree) (.type "KeyError") = some false)
    (kt_BadTree_IndexError : PySem.W.kitOne K (.ref cBadTree) (.type "IndexError") = some false)
    (kt_BadTree_ZeroDivisionError : PySem.W.kitOne K (.ref cBadTree) (.type "ZeroDivisionError") = some false)
    (xTS : PySem.W.exmOne K (.ref cBadTree) (.ref cStealError) = some true)
    (BTex : PySem.W.excIn K cBadTree [.type "ValueError", .type "Exception", .type "BaseException", .type "object"] "ValueError.__new__" = true)(BTkp : PySem.W.keepIn K (.ref cBadTree) = true)(BTsb : PySem.W.subIn K (.ref cBadTree) (.type "BaseException") = some true)(BTty : PySem.W.typeIn K (.ref cBadTree) = some (.type "type"))
    (isBT : PySem.W.isClsIn K cBadTree = true)(BTga : PySem.W.findIn K (.ref cBadTree) "__getattribute__" = some (some (.builtin "BaseException.__getattribute__")))(BTgg : PySem.W.findIn K (.ref cBadTree) "__getattr__" = some none)(BTca : PySem.W.findIn K (.ref cBadTree) "__class__" = some (some (.builtin "object.__class__")))(BTob : PySem.W.mroIn K cBadTree (.type "object") = some true)
    (cgO : PySem.W.specialIn K (.builtin "object.__class__") "__get__" = some (some (.builtin "getset_descriptor.__get__")))(ctO : PySem.W.takesIn K (.builtin "object.__class__") = some true)
    : ∃ fd : FuncData, (∀ (s : Shared) (v : Value), BindsTo s fd ⟨[v], []⟩ [("_law_script", v)]) ∧ ∀ base : Heap, K.In base → base.Ns mainGlobals mg → FnG l.prog w K mg base 80 fa fd ["_law_script"] (spLaw K) := by
  have e := hfa.symm.trans (PySem.W.mg_of X G a_law)
  cases e
  have F_check_work := fun_mk (st := sChkWork) l_check_work c_check_work k_check_work
  have b_check_work := F_check_work.binds (ps := ["thing"]) fun _ _ _ _ _ _ us hl => match us, hl with | [_], _ => rfl
  have m_check_work := PySem.W.mg_of X G a_check_work
  have F_is_work := fun_mk (st := sIsWork) l_is_work c_is_work k_is_work
  have b_is_work := F_is_work.binds (ps := ["thing"]) fun _ _ _ _ _ _ us hl => match us, hl with | [_], _ => rfl
  have m_is_work := PySem.W.mg_of X G a_is_work
  have F_is_tuple_of := fun_mk (st := sTupOf) l_is_tuple_of c_is_tuple_of k_is_tuple_of
  have b_is_tuple_of := F_is_tuple_of.binds (ps := ["thing", "many"]) fun _ _ _ _ _ _ us hl => match us, hl with | [_, _], _ => rfl
  have m_is_tuple_of := PySem.W.mg_of X G a_is_tuple_of
  have F_is_whole := fun_mk (st := sWhole) l_is_whole c_is_whole k_is_whole
  have b_is_whole := F_is_whole.binds (ps := ["thing"]) fun _ _ _ _ _ _ us hl => match us, hl with | [_], _ => rfl
  have m_is_whole := PySem.W.mg_of X G a_is_whole
  have F_is_whole_within := fun_mk (st := sWithin) l_is_whole_within c_is_whole_within k_is_whole_within
  have b_is_whole_within := F_is_whole_within.binds (ps := ["thing", "most"]) fun _ _ _ _ _ _ us hl => match us, hl with | [_, _], _ => rfl
  have m_is_whole_within := PySem.W.mg_of X G a_is_whole_within
  have F_is_name := fun_mk (st := sIsName) l_is_name c_is_name k_is_name
  have b_is_name := F_is_name.binds (ps := ["thing"]) fun _ _ _ _ _ _ us hl => match us, hl with | [_], _ => rfl
  have m_is_name := PySem.W.mg_of X G a_is_name
  have F_are_names := fun_mk (st := sAreNames) l_are_names c_are_names k_are_names
  have b_are_names := F_are_names.binds (ps := ["thing"]) fun _ _ _ _ _ _ us hl => match us, hl with | [_], _ => rfl
  have m_are_names := PySem.W.mg_of X G a_are_names
  have m_is_expression := PySem.W.mg_of X G a_is_expression
  have F_is_leaf := fun_mk (st := sLeaf) l_is_leaf c_is_leaf k_is_leaf
  have b_is_leaf := F_is_leaf.binds (ps := ["pair"]) fun _ _ _ _ _ _ us hl => match us, hl with | [_], _ => rfl
  have m_is_leaf := PySem.W.mg_of X G a_is_leaf
  have F_are_expressions := fun_mk (st := sAreEx) l_are_expressions c_are_expressions k_are_expressions
  have b_are_expressions := F_are_expressions.binds (ps := ["thing"]) fun _ _ _ _ _ _ us hl => match us, hl with | [_], _ => rfl
  have m_are_expressions := PySem.W.mg_of X G a_are_expressions
  have F_rows_left := fun_mk (st := sRowsL) l_rows_left c_rows_left k_rows_left
  have b_rows_left := F_rows_left.binds (ps := ["thing", "ifs", "left"]) fun _ _ _ _ _ _ us hl => match us, hl with | [_, _, _], _ => rfl
  have m_rows_left := PySem.W.mg_of X G a_rows_left
  have F_row_left := fun_mk (st := sRowL) l_row_left c_row_left k_row_left
  have b_row_left := F_row_left.binds (ps := ["thing", "ifs", "left"]) fun _ _ _ _ _ _ us hl => match us, hl with | [_, _, _], _ => rfl
  have m_row_left := PySem.W.mg_of X G a_row_left
  have F_branches_left := fun_mk (st := sBranL) l_branches_left c_branches_left k_branches_left
  have b_branches_left := F_branches_left.binds (ps := ["row", "ifs", "left"]) fun _ _ _ _ _ _ us hl => match us, hl with | [_, _, _], _ => rfl
  have m_branches_left := PySem.W.mg_of X G a_branches_left
  have F_is_if_head := fun_mk (st := sIfHead) l_is_if_head c_is_if_head k_is_if_head
  have b_is_if_head := F_is_if_head.binds (ps := ["thing"]) fun _ _ _ _ _ _ us hl => match us, hl with | [_], _ => rfl
  have m_is_if_head := PySem.W.mg_of X G a_is_if_head
  have F_is_plain_row := fun_mk (st := sPlain) l_is_plain_row c_is_plain_row k_is_plain_row
  have b_is_plain_row := F_is_plain_row.binds (ps := ["thing"]) fun _ _ _ _ _ _ us hl => match us, hl with | [_], _ => rfl
  have m_is_plain_row := PySem.W.mg_of X G a_is_plain_row
  have F_Lbag := fun_mk (st := sBag) l_Lbag c_Lbag k_Lbag
  have b_Lbag := F_Lbag.binds (ps := ["_law_script", "_law_k"]) fun _ _ _ _ _ _ us hl => match us, hl with | [_, _], _ => rfl
  have m_Lbag := PySem.W.mg_of X G a_Lbag
  have F_Ltake := fun_mk (st := sTake) l_Ltake c_Ltake k_Ltake
  have b_Ltake := F_Ltake.binds (ps := ["_law_bag_here", "_law_many"]) fun _ _ _ _ _ _ us hl => match us, hl with | [_, _], _ => rfl
  have m_Ltake := PySem.W.mg_of X G a_Ltake
  have F_Lkept := fun_mk (st := sKept) l_Lkept c_Lkept k_Lkept
  have b_Lkept := F_Lkept.binds (ps := []) fun _ _ _ _ _ _ us hl => match us, hl with | [], _ => rfl
  have m_Lkept := PySem.W.mg_of X G a_Lkept
  have F_Lnames := fun_mk (st := sNames) l_Lnames c_Lnames k_Lnames
  have b_Lnames := F_Lnames.binds (ps := ["_law_bag_here", "_law_many"]) fun _ _ _ _ _ _ us hl => match us, hl with | [_, _], _ => rfl
  have m_Lnames := PySem.W.mg_of X G a_Lnames
  have F_Lnumber := fun_mk (st := sNumber) l_Lnumber c_Lnumber k_Lnumber
  have b_Lnumber := F_Lnumber.binds (ps := ["_law_bag_here"]) fun _ _ _ _ _ _ us hl => match us, hl with | [_], _ => rfl
  have m_Lnumber := PySem.W.mg_of X G a_Lnumber
  have F_Ltree := fun_mk (st := sTree) l_Ltree c_Ltree k_Ltree
  have b_Ltree := F_Ltree.binds (ps := ["_law_bag_here", "_law_names_here", "_law_deep_here"]) fun _ _ _ _ _ _ us hl => match us, hl with | [_, _, _], _ => rfl
  have m_Ltree := PySem.W.mg_of X G a_Ltree
  have F_Lrow := fun_mk (st := sRow) l_Lrow c_Lrow k_Lrow
  have b_Lrow := F_Lrow.binds (ps := ["_law_bag_here", "_law_state", "_law_nested"]) fun _ _ _ _ _ _ us hl => match us, hl with | [_, _, _], _ => rfl
  have m_Lrow := PySem.W.mg_of X G a_Lrow
  have F_Lrows := fun_mk (st := sRows) l_Lrows c_Lrows k_Lrows
  have b_Lrows := F_Lrows.binds (ps := ["_law_bag_here", "_law_state", "_law_nested"]) fun _ _ _ _ _ _ us hl => match us, hl with | [_, _, _], _ => rfl
  have m_Lrows := PySem.W.mg_of X G a_Lrows
  have F_Lworks := fun_mk (st := sWorks) l_Lworks c_Lworks k_Lworks
  have b_Lworks := F_Lworks.binds (ps := ["_law_bag_here", "_law_most"]) fun _ _ _ _ _ _ us hl => match us, hl with | [_, _], _ => rfl
  have m_Lworks := PySem.W.mg_of X G a_Lworks
  have F_Lany := fun_mk (st := sAnyL) l_Lany c_Lany k_Lany
  have b_Lany := F_Lany.binds (ps := ["_law_bag_here", "_law_deep_here"]) fun _ _ _ _ _ _ us hl => match us, hl with | [_, _], _ => rfl
  have m_Lany := PySem.W.mg_of X G a_Lany
  have F_Lspoilt := fun_mk (st := sSpoil) l_Lspoilt c_Lspoilt k_Lspoilt
  have b_Lspoilt := F_Lspoilt.binds (ps := ["_law_bag_here", "_law_thing"]) fun _ _ _ _ _ _ us hl => match us, hl with | [_, _], _ => rfl
  have m_Lspoilt := PySem.W.mg_of X G a_Lspoilt
  have F_Lwhole := fun_mk (st := sLWh) l_Lwhole c_Lwhole k_Lwhole
  have b_Lwhole := F_Lwhole.binds (ps := ["_law_thing"]) fun _ _ _ _ _ _ us hl => match us, hl with | [_], _ => rfl
  have m_Lwhole := PySem.W.mg_of X G a_Lwhole
  have F_Lis_name := fun_mk (st := sLNm) l_Lis_name c_Lis_name k_Lis_name
  have b_Lis_name := F_Lis_name.binds (ps := ["_law_thing"]) fun _ _ _ _ _ _ us hl => match us, hl with | [_], _ => rfl
  have m_Lis_name := PySem.W.mg_of X G a_Lis_name
  have F_Ldeep := fun_mk (st := sDeepL) l_Ldeep c_Ldeep k_Ldeep
  have b_Ldeep := F_Ldeep.binds (ps := ["_law_thing"]) fun _ _ _ _ _ _ us hl => match us, hl with | [_], _ => rfl
  have m_Ldeep := PySem.W.mg_of X G a_Ldeep
  have F_Lis_list := fun_mk (st := sListL) l_Lis_list c_Lis_list k_Lis_list
  have b_Lis_list := F_Lis_list.binds (ps := ["_law_thing", "_law_many", "_law_is_one"]) fun _ _ _ _ _ _ us hl => match us, hl with | [_, _, _], _ => rfl
  have m_Lis_list := PySem.W.mg_of X G a_Lis_list
  have F_Lis_tree := fun_mk (st := sTreeL) l_Lis_tree c_Lis_tree k_Lis_tree
  have b_Lis_tree := F_Lis_tree.binds (ps := ["_law_thing"]) fun _ _ _ _ _ _ us hl => match us, hl with | [_], _ => rfl
  have m_Lis_tree := PySem.W.mg_of X G a_Lis_tree
  have F_Lcount := fun_mk (st := sCountL) l_Lcount c_Lcount k_Lcount
  have b_Lcount := F_Lcount.binds (ps := ["_law_thing", "_law_nested"]) fun _ _ _ _ _ _ us hl => match us, hl with | [_, _], _ => rfl
  have m_Lcount := PySem.W.mg_of X G a_Lcount
  have F_Lrow_count := fun_mk (st := sRowCL) l_Lrow_count c_Lrow_count k_Lrow_count
  have b_Lrow_count := F_Lrow_count.binds (ps := ["_law_thing", "_law_nested"]) fun _ _ _ _ _ _ us hl => match us, hl with | [_, _], _ => rfl
  have m_Lrow_count := PySem.W.mg_of X G a_Lrow_count
  have F_Lis_work := fun_mk (st := sWorkL) l_Lis_work c_Lis_work k_Lis_work
  have b_Lis_work := F_Lis_work.binds (ps := ["_law_thing"]) fun _ _ _ _ _ _ us hl => match us, hl with | [_], _ => rfl
  have m_Lis_work := PySem.W.mg_of X G a_Lis_work
  have F_Lrefusal := fun_mk (st := sRefusal) l_Lrefusal c_Lrefusal k_Lrefusal
  have b_Lrefusal := F_Lrefusal.binds (ps := ["_law_e"]) fun _ _ _ _ _ _ us hl => match us, hl with | [_], _ => rfl
  have m_Lrefusal := PySem.W.mg_of X G a_Lrefusal
  have F_Lsaid := fun_mk (st := sSaid01) l_Lsaid c_Lsaid k_Lsaid
  have b_Lsaid := F_Lsaid.binds (ps := ["_law_thing"]) fun _ _ _ _ _ _ us hl => match us, hl with | [_], _ => rfl
  have m_Lsaid := PySem.W.mg_of X G a_Lsaid
  have F_Ltwin := fun_mk (st := sTwin) l_Ltwin c_Ltwin k_Ltwin
  have b_Ltwin := F_Ltwin.binds (ps := ["_law_thing"]) fun _ _ _ _ _ _ us hl => match us, hl with | [_], _ => rfl
  have m_Ltwin := PySem.W.mg_of X G a_Ltwin
  have F_Ldeeper := fun_mk (st := sDeeper) l_Ldeeper c_Ldeeper k_Ldeeper
  have b_Ldeeper := F_Ldeeper.binds (ps := ["_law_deep_here"]) fun _ _ _ _ _ _ us hl => match us, hl with | [_], _ => rfl
  have m_Ldeeper := PySem.W.mg_of X G a_Ldeeper
  have F_Ledges := fun_mk (st := sEdges) l_Ledges c_Ledges k_Ledges
  have b_Ledges := F_Ledges.binds (ps := []) fun _ _ _ _ _ _ us hl => match us, hl with | [], _ => rfl
  have m_Ledges := PySem.W.mg_of X G a_Ledges
  have F_law := fun_mk (st := sLaw) l_law c_law k_law
  have m_law := PySem.W.mg_of X G a_law
  have T : Bi mg := ⟨PySem.W.mg_none_of X G z_len, PySem.W.mg_none_of X G z_abs, PySem.W.mg_none_of X G z_int, PySem.W.mg_none_of X G z_str, PySem.W.mg_none_of X G z_range, PySem.W.mg_none_of X G z_max, PySem.W.mg_none_of X G z_min, PySem.W.mg_none_of X G z_isinstance, PySem.W.mg_none_of X G z_all⟩
  have q_tuple := PySem.W.mg_none_of X G z_tuple
  have q_bool := PySem.W.mg_none_of X G z_bool
  have q_set := PySem.W.mg_none_of X G z_set
  have q_list := PySem.W.mg_none_of X G z_list
  have q_repr := PySem.W.mg_none_of X G z_repr
  have q_sum := PySem.W.mg_none_of X G z_sum
  have q_ValueError := PySem.W.mg_none_of X G z_ValueError
  have q_LookupError := PySem.W.mg_none_of X G z_LookupError
  have q_RuntimeError := PySem.W.mg_none_of X G z_RuntimeError
  have q_ArithmeticError := PySem.W.mg_none_of X G z_ArithmeticError
  have q_KeyError := PySem.W.mg_none_of X G z_KeyError
  have q_IndexError := PySem.W.mg_none_of X G z_IndexError
  have q_ZeroDivisionError := PySem.W.mg_none_of X G z_ZeroDivisionError
  refine ⟨PySem.W.fnOf "law" "law" (defArgs sLaw) (defBody sLaw) (defScope sLaw) .none kV_law dc_law pm_law an_law cd_law ct_law, fun s v => .of_eq rfl, fun base _ _ => ?_⟩
  have hW10 : iW.toArray.size ≤ sizeLine := by
    have := vW.length
    rw [List.size_toArray, ← this]
    decide
  have hS5 : iS.toArray.size ≤ sizeLine := by
    have := vS.length
    rw [List.size_toArray, ← this]
    decide
  have e30 : (1000000 : Int) ^ 5 - 1 = 999999999999999999999999999999 := by decide
  have GF : Gf K mg := ⟨⟨aW, PySem.W.mg_of X G gW, fun H => .inr ⟨_, iW.toArray, nW, lW, rfl, rfl, hW10, by rw [List.toList_toArray]; exact vW⟩⟩, ⟨aS, PySem.W.mg_of X G gS, fun H => .inr ⟨_, iS.toArray, nS, lS, rfl, rfl, hS5, by rw [List.toList_toArray]; exact vS⟩⟩, ⟨tLt, PySem.W.mg_of X G gLt⟩,
    ⟨_, PySem.W.mg_of X G g_MOST_ROWS⟩, ⟨_, PySem.W.mg_of X G g_MOST_NAMES⟩, ⟨_, PySem.W.mg_of X G g_MOST_EXPRESSIONS⟩, ⟨_, PySem.W.mg_of X G g_MOST_IFS⟩, ⟨_, PySem.W.mg_of X G g_MOST_LETTERS⟩, ⟨_, PySem.W.mg_of X G g_MOST_ROOM⟩, ⟨_, by rw [e30]; exact PySem.W.mg_of X G g_MOST_NUMBER⟩, ⟨_, PySem.W.mg_of X G g_NO_ROWS⟩⟩
  have FE : FunD K "is_expression" "is_expression" (defArgs sIsEx) (defBody sIsEx) (defScope sIsEx) [.int 6] [] f_is_expression _ := ⟨⟨_, _, _, _, _, _, _, _, _, _, rfl, l_is_expression, c_is_expression, .inr ⟨by simp, TD, oTD, iTD, nTD, rfl, lTD, oTD0, vTD⟩, .inl rfl⟩, k_is_expression⟩
  obtain ⟨⟨dsE, vE, bE⟩, bE0⟩ := isEx_dflt FE
  have TO : Fk l.prog w K mg base 1 "is_tuple_of" f_is_tuple_of _ ["thing", "many"] spTupD := ⟨ok_tupD F_is_tuple_of T q_tuple, m_is_tuple_of, k_is_tuple_of, b_is_tuple_of⟩
  have WH : Fk l.prog w K mg base 1 "is_whole" f_is_whole _ ["thing"] spWhD := ⟨ok_whD (x := "") (qual := "") (st := sWhole) F_is_whole T q_bool, m_is_whole, k_is_whole, b_is_whole⟩
  have WI : Fk l.prog w K mg base 2 "is_whole_within" f_is_whole_within _ ["thing", "most"] spWithD := ⟨ok_withD F_is_whole_within WH, m_is_whole_within, k_is_whole_within, b_is_whole_within⟩
  have IN : Fk l.prog w K mg base 1 "is_name" f_is_name _ ["thing"] (spAny nameD) := ⟨ok_nameD F_is_name T GF, m_is_name, k_is_name, b_is_name⟩
  have LF : Fk l.prog w K mg base 3 "is_leaf" f_is_leaf _ ["pair"] spLeafD := ⟨ok_leafD F_is_leaf WI IN GF, m_is_leaf, k_is_leaf, b_is_leaf⟩
  have mE := PySem.W.mg_of X G a_is_expression
  have IE : Fk l.prog w K mg base 9 "is_expression" f_is_expression _ ["thing", "deepest"] (spExD 5) := ⟨exDs FE mE bE0 TO LF GF 5, mE, k_is_expression, bE0⟩
  have AN : Fk l.prog w K mg base 2 "are_names" f_are_names _ ["thing"] (spAny namesD) := ⟨ok_namesD F_are_names IN T GF q_tuple q_set, m_are_names, k_are_names, b_are_names⟩
  have AE : Fk l.prog w K mg base 10 "are_expressions" f_are_expressions _ ["thing"] (spAny expsD) := ⟨ok_expsD F_are_expressions IE vE bE T GF q_tuple, m_are_expressions, k_are_expressions, b_are_expressions⟩
  have IH : Fk l.prog w K mg base 10 "is_if_head" f_is_if_head _ ["thing"] (spAny ifHeadB) := ⟨ok_ifHeadD F_is_if_head TO IE vE bE, m_is_if_head, k_is_if_head, b_is_if_head⟩
  have IP : Fk l.prog w K mg base 11 "is_plain_row" f_is_plain_row _ ["thing"] (spAny plainB) := ⟨ok_plainD F_is_plain_row TO IE vE bE IN AE, m_is_plain_row, k_is_plain_row, b_is_plain_row⟩
  have RL : Fk l.prog w K mg base 22 "rows_left" f_rows_left _ ["thing", "ifs", "left"] (spRowsD 3) := ⟨rowsLDs F_row_left F_branches_left F_rows_left m_row_left m_branches_left m_rows_left b_row_left b_branches_left b_rows_left IH IP T GF q_tuple 3, m_rows_left, k_rows_left, b_rows_left⟩
  have IW : Fk l.prog w K mg base 23 "is_work" f_is_work _ ["thing"] (spAny workB) := ⟨ok_isWorkD F_is_work TO IN AN WI RL GF, m_is_work, k_is_work, b_is_work⟩
  have OTB : OwnT K mg "BadTree" cBadTree := ⟨BTex, PySem.W.mg_of X G aBadTree, BTkp, BTsb, BTty⟩
  have CW : FkN l.prog w K mg base 24 "check_work" f_check_work _ ["thing"] (spChkD cBadTree) := ⟨ok_chkWorkD F_check_work IW OTB, m_check_work, k_check_work, b_check_work⟩
  have BG : Fk l.prog w K mg base 1 "_law_bag" f_Lbag _ ["_law_script", "_law_k"] (spBag K) := ⟨ok_bag F_Lbag T, m_Lbag, k_Lbag, b_Lbag⟩
  have KE : Fk l.prog w K mg base 1 "_law_kept" f_Lkept _ [] spKept := ⟨ok_kept F_Lkept, m_Lkept, k_Lkept, b_Lkept⟩
  have TK : Fk l.prog w K mg base 1 "_law_take" f_Ltake _ ["_law_bag_here", "_law_many"] spTake := ⟨ok_take F_Ltake, m_Ltake, k_Ltake, b_Ltake⟩
  have NB : Fk l.prog w K mg base 2 "_law_number" f_Lnumber _ ["_law_bag_here"] spNumber := ⟨ok_number F_Lnumber TK T, m_Lnumber, k_Lnumber, b_Lnumber⟩
  have NM : Fk l.prog w K mg base 2 "_law_names" f_Lnames _ ["_law_bag_here", "_law_many"] spNames := ⟨ok_names F_Lnames TK KE T, m_Lnames, k_Lnames, b_Lnames⟩
  have TR : Fk l.prog w K mg base 8 "_law_tree" f_Ltree _ ["_law_bag_here", "_law_names_here", "_law_deep_here"] (spTrees 6) := ⟨trees_all F_Ltree m_Ltree b_Ltree TK NB T 6, m_Ltree, k_Ltree, b_Ltree⟩
  have RW : Fk l.prog w K mg base 16 "_law_rows" f_Lrows _ ["_law_bag_here", "_law_state", "_law_nested"] (spRows 3) := ⟨rowsAll F_Lrow m_Lrow b_Lrow F_Lrows m_Lrows b_Lrows TK TR T q_tuple 3, m_Lrows, k_Lrows, b_Lrows⟩
  have WS : Fk l.prog w K mg base 17 "_law_works" f_Lworks _ ["_law_bag_here", "_law_most"] spWorks := ⟨ok_works F_Lworks TK NM RW T q_tuple, m_Lworks, k_Lworks, b_Lworks⟩
  have LW : Fk l.prog w K mg base 1 "_law_whole" f_Lwhole _ ["_law_thing"] spWhD := ⟨ok_wholeL F_Lwhole T q_bool, m_Lwhole, k_Lwhole, b_Lwhole⟩
  have LN : Fk l.prog w K mg base 2 "_law_is_name" f_Lis_name _ ["_law_thing"] (spAny nameD) := ⟨ok_nameL F_Lis_name KE T, m_Lis_name, k_Lis_name, b_Lis_name⟩
  have DP : Fk l.prog w K mg base 67 "_law_deep" f_Ldeep _ ["_law_thing"] (spDeepL 64) := ⟨deepLs F_Ldeep m_Ldeep b_Ldeep LN LW T q_tuple 64, m_Ldeep, k_Ldeep, b_Ldeep⟩
  have LT : Fk l.prog w K mg base 68 "_law_is_tree" f_Lis_tree _ ["_law_thing"] (spAny (expB 5)) := ⟨ok_treeL F_Lis_tree DP T, m_Lis_tree, k_Lis_tree, b_Lis_tree⟩
  have LLT : Fk l.prog w K mg base 69 "_law_is_list" f_Lis_list _ ["_law_thing", "_law_many", "_law_is_one"] (spListL f_Lis_tree (expB 5)) := ⟨ok_listL (k := 68) F_Lis_list LT.G k_Lis_tree b_Lis_tree T q_tuple, m_Lis_list, k_Lis_list, b_Lis_list⟩
  have LLN : Fk l.prog w K mg base 3 "_law_is_list" f_Lis_list _ ["_law_thing", "_law_many", "_law_is_one"] (spListL f_Lis_name nameD) := ⟨ok_listL (k := 2) F_Lis_list LN.G k_Lis_name b_Lis_name T q_tuple, m_Lis_list, k_Lis_list, b_Lis_list⟩
  have LC : Fk l.prog w K mg base 78 "_law_count" f_Lcount _ ["_law_thing", "_law_nested"] (spCountL 3) := ⟨countLs F_Lrow_count F_Lcount m_Lrow_count m_Lcount b_Lrow_count b_Lcount LT LN LLT T q_tuple q_sum 3, m_Lcount, k_Lcount, b_Lcount⟩
  have IWL : Fk l.prog w K mg base 79 "_law_is_work" f_Lis_work _ ["_law_thing"] (spAny workB) := ⟨ok_workL F_Lis_work LN m_Lis_name LLN LC LW T q_tuple q_set, m_Lis_work, k_Lis_work, b_Lis_work⟩
  have AY2 : Fk l.prog w K mg base 4 "_law_any" f_Lany _ ["_law_bag_here", "_law_deep_here"] (spAnyD 2) := ⟨anyLs F_Lany TK m_Lany b_Lany T q_tuple 2, m_Lany, k_Lany, b_Lany⟩
  have AY4 : Fk l.prog w K mg base 6 "_law_any" f_Lany _ ["_law_bag_here", "_law_deep_here"] (spAnyD 4) := ⟨anyLs F_Lany TK m_Lany b_Lany T q_tuple 4, m_Lany, k_Lany, b_Lany⟩
  have SP : Fk l.prog w K mg base 35 "_law_spoilt" f_Lspoilt _ ["_law_bag_here", "_law_thing"] (spSpoil 30) := ⟨spoils F_Lspoilt TK AY2 m_Lspoilt b_Lspoilt T q_tuple q_list q_bool 30, m_Lspoilt, k_Lspoilt, b_Lspoilt⟩
  have TW : Fk l.prog w K mg base 42 "_law_twin" f_Ltwin _ ["_law_thing"] (spTwin 40) := ⟨twins F_Ltwin LW m_Ltwin b_Ltwin T q_tuple 40, m_Ltwin, k_Ltwin, b_Ltwin⟩
  have ECB : ErC K cBadTree := ⟨isBT, BTga, BTgg, BTsb, BTca, cgO, ctO, BTob⟩
  have EKB : ErK_tree K cBadTree cBadText cBadTree cBadArgs cBadHall cBadTurn cNoRow cMissing cBare cSpent cBroken cStealError := ⟨kt_BadTree_BadText, kt_BadTree_BadTree, kt_BadTree_BadArgs, kt_BadTree_BadHall, kt_BadTree_BadTurn, kt_BadTree_NoRow, kt_BadTree_Missing, kt_BadTree_Bare, kt_BadTree_Spent, kt_BadTree_Broken, kt_BadTree_StealError, kt_BadTree_ValueError, kt_BadTree_LookupError, kt_BadTree_RuntimeError, kt_BadTree_ArithmeticError, kt_BadTree_KeyError, kt_BadTree_IndexError, kt_BadTree_ZeroDivisionError⟩
  have GR : FnE l.prog w K mg base 2 f_Lrefusal _ ["_law_e"] (spRefus "tree" cBadTree) := ok_refusal_tree F_Lrefusal ECB EKB T (PySem.W.mg_of X G aBadText) (PySem.W.mg_of X G aBadTree) (PySem.W.mg_of X G aBadArgs) (PySem.W.mg_of X G aBadHall) (PySem.W.mg_of X G aBadTurn) (PySem.W.mg_of X G aNoRow) (PySem.W.mg_of X G aMissing) (PySem.W.mg_of X G aBare) (PySem.W.mg_of X G aSpent) (PySem.W.mg_of X G aBroken) (PySem.W.mg_of X G aStealError) q_ValueError q_LookupError q_RuntimeError q_ArithmeticError q_KeyError q_IndexError q_ZeroDivisionError
  have SD : Fk l.prog w K mg base 25 "_law_said" f_Lsaid _ ["_law_thing"] spSaid01 := ⟨ok_said01 F_Lsaid CW GR m_Lrefusal k_Lrefusal b_Lrefusal (PySem.W.mg_of X G aStealError) xTS, m_Lsaid, k_Lsaid, b_Lsaid⟩
  have DE : Fk l.prog w K mg base 1 "_law_deeper" f_Ldeeper _ ["_law_deep_here"] spDeeper := ⟨ok_deeper F_Ldeeper T, m_Ldeeper, k_Ldeeper, b_Ldeeper⟩
  have ED : Fk l.prog w K mg base 2 "_law_edges" f_Ledges _ [] spEdges := ⟨ok_edges F_Ledges DE T, m_Ledges, k_Ledges, b_Ledges⟩
  exact ok_law F_law BG WS SP TW AY4 IWL SD ED T q_tuple q_list q_repr
theorem facts {w : World} {K : PySem.W.Frag} {h : Heap} {mg : Str → Option Value} {fa : Addr} (X : K.In h) (G : h.Ns mainGlobals mg) (hfa : mg "law" = some (.ref fa)) (c : HK.Says faL fnL K) :
    ∃ fd : FuncData, (∀ (s : Shared) (v : Value), BindsTo s fd ⟨[v], []⟩ [("_law_script", v)]) ∧ ∀ base : Heap, K.In base → base.Ns mainGlobals mg → FnG PySem.Challenge.rw_stealhall_k01_works_of_any_thing.prog w K mg base 80 fa fd ["_law_script"] (spLaw K) := by
  obtain ⟨oc_check_work, od_check_work, sl_check_work, kV_check_work, dc_check_work, pm_check_work, an_check_work, cd_check_work, ct_check_work, l_check_work, c_check_work, k_check_work⟩ := c.plain 0 (p := ("check_work", none)) (x := "check_work") (y := "check_work") (st := sChkWork) (by rfl)
  obtain ⟨oc_is_work, od_is_work, sl_is_work, kV_is_work, dc_is_work, pm_is_work, an_is_work, cd_is_work, ct_is_work, l_is_work, c_is_work, k_is_work⟩ := c.plain 1 (p := ("is_work", none)) (x := "is_work") (y := "is_work") (st := sIsWork) (by rfl)
  obtain ⟨oc_is_tuple_of, od_is_tuple_of, sl_is_tuple_of, kV_is_tuple_of, dc_is_tuple_of, pm_is_tuple_of, an_is_tuple_of, cd_is_tuple_of, ct_is_tuple_of, l_is_tuple_of, c_is_tuple_of, k_is_tuple_of⟩ := c.plain 2 (p := ("is_tuple_of", none)) (x := "is_tuple_of") (y := "is_tuple_of") (st := sTupOf) (by rfl)
  obtain ⟨oc_is_whole, od_is_whole, sl_is_whole, kV_is_whole, dc_is_whole, pm_is_whole, an_is_whole, cd_is_whole, ct_is_whole, l_is_whole, c_is_whole, k_is_whole⟩ := c.plain 3 (p := ("is_whole", none)) (x := "is_whole") (y := "is_whole") (st := sWhole) (by rfl)
  obtain ⟨oc_is_whole_within, od_is_whole_within, sl_is_whole_within, kV_is_whole_within, dc_is_whole_within, pm_is_whole_within, an_is_whole_within, cd_is_whole_within, ct_is_whole_within, l_is_whole_within, c_is_whole_within, k_is_whole_within⟩ := c.plain 4 (p := ("is_whole_within", none)) (x := "is_whole_within") (y := "is_whole_within") (st := sWithin) (by rfl)
  obtain ⟨oc_is_name, od_is_name, sl_is_name, kV_is_name, dc_is_name, pm_is_name, an_is_name, cd_is_name, ct_is_name, l_is_name, c_is_name, k_is_name⟩ := c.plain 5 (p := ("is_name", none)) (x := "is_name") (y := "is_name") (st := sIsName) (by rfl)
  obtain ⟨oc_are_names, od_are_names, sl_are_names, kV_are_names, dc_are_names, pm_are_names, an_are_names, cd_are_names, ct_are_names, l_are_names, c_are_names, k_are_names⟩ := c.plain 6 (p := ("are_names", none)) (x := "are_names") (y := "are_names") (st := sAreNames) (by rfl)
  obtain ⟨oc_is_expression, od_is_expression, sl_is_expression, kV_is_expression, dc_is_expression, pm_is_expression, an_is_expression, cd_is_expression, ct_is_expression, l_is_expression, c_is_expression, k_is_expression⟩ := c.dfl 7 (p := ("is_expression", none)) (x := "is_expression") (y := "is_expression") (st := sIsEx) (by rfl)
  obtain ⟨oc_is_leaf, od_is_leaf, sl_is_leaf, kV_is_leaf, dc_is_leaf, pm_is_leaf, an_is_leaf, cd_is_leaf, ct_is_leaf, l_is_leaf, c_is_leaf, k_is_leaf⟩ := c.plain 8 (p := ("is_leaf", none)) (x := "is_leaf") (y := "is_leaf") (st := sLeaf) (by rfl)
  obtain ⟨oc_are_expressions, od_are_expressions, sl_are_expressions, kV_are_expressions, dc_are_expressions, pm_are_expressions, an_are_expressions, cd_are_expressions, ct_are_expressions, l_are_expressions, c_are_expressions, k_are_expressions⟩ := c.plain 9 (p := ("are_expressions", none)) (x := "are_expressions") (y := "are_expressions") (st := sAreEx) (by rfl)
  obtain ⟨oc_rows_left, od_rows_left, sl_rows_left, kV_rows_left, dc_rows_left, pm_rows_left, an_rows_left, cd_rows_left, ct_rows_left, l_rows_left, c_rows_left, k_rows_left⟩ := c.plain 10 (p := ("rows_left", none)) (x := "rows_left") (y := "rows_left") (st := sRowsL) (by rfl)
  obtain ⟨oc_row_left, od_row_left, sl_row_left, kV_row_left, dc_row_left, pm_row_left, an_row_left, cd_row_left, ct_row_left, l_row_left, c_row_left, k_row_left⟩ := c.plain 11 (p := ("row_left", none)) (x := "row_left") (y := "row_left") (st := sRowL) (by rfl)
  obtain ⟨oc_branches_left, od_branches_left, sl_branches_left, kV_branches_left, dc_branches_left, pm_branches_left, an_branches_left, cd_branches_left, ct_branches_left, l_branches_left, c_branches_left, k_branches_left⟩ := c.plain 12 (p := ("branches_left", none)) (x := "branches_left") (y := "branches_left") (st := sBranL) (by rfl)
  obtain ⟨oc_is_if_head, od_is_if_head, sl_is_if_head, kV_is_if_head, dc_is_if_head, pm_is_if_head, an_is_if_head, cd_is_if_head, ct_is_if_head, l_is_if_head, c_is_if_head, k_is_if_head⟩ := c.plain 13 (p := ("is_if_head", none)) (x := "is_if_head") (y := "is_if_head") (st := sIfHead) (by rfl)
  obtain ⟨oc_is_plain_row, od_is_plain_row, sl_is_plain_row, kV_is_plain_row, dc_is_plain_row, pm_is_plain_row, an_is_plain_row, cd_is_plain_row, ct_is_plain_row, l_is_plain_row, c_is_plain_row, k_is_plain_row⟩ := c.plain 14 (p := ("is_plain_row", none)) (x := "is_plain_row") (y := "is_plain_row") (st := sPlain) (by rfl)
  obtain ⟨oc_Lbag, od_Lbag, sl_Lbag, kV_Lbag, dc_Lbag, pm_Lbag, an_Lbag, cd_Lbag, ct_Lbag, l_Lbag, c_Lbag, k_Lbag⟩ := c.plain 15 (p := ("_law_bag", none)) (x := "_law_bag") (y := "_law_bag") (st := sBag) (by rfl)
  obtain ⟨oc_Ltake, od_Ltake, sl_Ltake, kV_Ltake, dc_Ltake, pm_Ltake, an_Ltake, cd_Ltake, ct_Ltake, l_Ltake, c_Ltake, k_Ltake⟩ := c.plain 16 (p := ("_law_take", none)) (x := "_law_take") (y := "_law_take") (st := sTake) (by rfl)
  obtain ⟨oc_Lkept, od_Lkept, sl_Lkept, kV_Lkept, dc_Lkept, pm_Lkept, an_Lkept, cd_Lkept, ct_Lkept, l_Lkept, c_Lkept, k_Lkept⟩ := c.plain 17 (p := ("_law_kept", none)) (x := "_law_kept") (y := "_law_kept") (st := sKept) (by rfl)
  obtain ⟨oc_Lnames, od_Lnames, sl_Lnames, kV_Lnames, dc_Lnames, pm_Lnames, an_Lnames, cd_Lnames, ct_Lnames, l_Lnames, c_Lnames, k_Lnames⟩ := c.plain 18 (p := ("_law_names", none)) (x := "_law_names") (y := "_law_names") (st := sNames) (by rfl)
  obtain ⟨oc_Lnumber, od_Lnumber, sl_Lnumber, kV_Lnumber, dc_Lnumber, pm_Lnumber, an_Lnumber, cd_Lnumber, ct_Lnumber, l_Lnumber, c_Lnumber, k_Lnumber⟩ := c.plain 19 (p := ("_law_number", none)) (x := "_law_number") (y := "_law_number") (st := sNumber) (by rfl)
  obtain ⟨oc_Ltree, od_Ltree, sl_Ltree, kV_Ltree, dc_Ltree, pm_Ltree, an_Ltree, cd_Ltree, ct_Ltree, l_Ltree, c_Ltree, k_Ltree⟩ := c.plain 20 (p := ("_law_tree", none)) (x := "_law_tree") (y := "_law_tree") (st := sTree) (by rfl)
  obtain ⟨oc_Lrow, od_Lrow, sl_Lrow, kV_Lrow, dc_Lrow, pm_Lrow, an_Lrow, cd_Lrow, ct_Lrow, l_Lrow, c_Lrow, k_Lrow⟩ := c.plain 21 (p := ("_law_row", none)) (x := "_law_row") (y := "_law_row") (st := sRow) (by rfl)
  obtain ⟨oc_Lrows, od_Lrows, sl_Lrows, kV_Lrows, dc_Lrows, pm_Lrows, an_Lrows, cd_Lrows, ct_Lrows, l_Lrows, c_Lrows, k_Lrows⟩ := c.plain 22 (p := ("_law_rows", none)) (x := "_law_rows") (y := "_law_rows") (st := sRows) (by rfl)
  obtain ⟨oc_Lworks, od_Lworks, sl_Lworks, kV_Lworks, dc_Lworks, pm_Lworks, an_Lworks, cd_Lworks, ct_Lworks, l_Lworks, c_Lworks, k_Lworks⟩ := c.plain 23 (p := ("_law_works", none)) (x := "_law_works") (y := "_law_works") (st := sWorks) (by rfl)
  obtain ⟨oc_Lany, od_Lany, sl_Lany, kV_Lany, dc_Lany, pm_Lany, an_Lany, cd_Lany, ct_Lany, l_Lany, c_Lany, k_Lany⟩ := c.plain 24 (p := ("_law_any", none)) (x := "_law_any") (y := "_law_any") (st := sAnyL) (by rfl)
  obtain ⟨oc_Lspoilt, od_Lspoilt, sl_Lspoilt, kV_Lspoilt, dc_Lspoilt, pm_Lspoilt, an_Lspoilt, cd_Lspoilt, ct_Lspoilt, l_Lspoilt, c_Lspoilt, k_Lspoilt⟩ := c.plain 25 (p := ("_law_spoilt", none)) (x := "_law_spoilt") (y := "_law_spoilt") (st := sSpoil) (by rfl)
  obtain ⟨oc_Lwhole, od_Lwhole, sl_Lwhole, kV_Lwhole, dc_Lwhole, pm_Lwhole, an_Lwhole, cd_Lwhole, ct_Lwhole, l_Lwhole, c_Lwhole, k_Lwhole⟩ := c.plain 26 (p := ("_law_whole", none)) (x := "_law_whole") (y := "_law_whole") (st := sLWh) (by rfl)
  obtain ⟨oc_Lis_name, od_Lis_name, sl_Lis_name, kV_Lis_name, dc_Lis_name, pm_Lis_name, an_Lis_name, cd_Lis_name, ct_Lis_name, l_Lis_name, c_Lis_name, k_Lis_name⟩ := c.plain 27 (p := ("_law_is_name", none)) (x := "_law_is_name") (y := "_law_is_name") (st := sLNm) (by rfl)
  obtain ⟨oc_Ldeep, od_Ldeep, sl_Ldeep, kV_Ldeep, dc_Ldeep, pm_Ldeep, an_Ldeep, cd_Ldeep, ct_Ldeep, l_Ldeep, c_Ldeep, k_Ldeep⟩ := c.plain 28 (p := ("_law_deep", none)) (x := "_law_deep") (y := "_law_deep") (st := sDeepL) (by rfl)
  obtain ⟨oc_Lis_list, od_Lis_list, sl_Lis_list, kV_Lis_list, dc_Lis_list, pm_Lis_list, an_Lis_list, cd_Lis_list, ct_Lis_list, l_Lis_list, c_Lis_list, k_Lis_list⟩ := c.plain 29 (p := ("_law_is_list", none)) (x := "_law_is_list") (y := "_law_is_list") (st := sListL) (by rfl)
  obtain ⟨oc_Lis_tree, od_Lis_tree, sl_Lis_tree, kV_Lis_tree, dc_Lis_tree, pm_Lis_tree, an_Lis_tree, cd_Lis_tree, ct_Lis_tree, l_Lis_tree, c_Lis_tree, k_Lis_tree⟩ := c.plain 30 (p := ("_law_is_tree", none)) (x := "_law_is_tree") (y := "_law_is_tree") (st := sTreeL) (by rfl)
  obtain ⟨oc_Lcount, od_Lcount, sl_Lcount, kV_Lcount, dc_Lcount, pm_Lcount, an_Lcount, cd_Lcount, ct_Lcount, l_Lcount, c_Lcount, k_Lcount⟩ := c.plain 31 (p := ("_law_count", none)) (x := "_law_count") (y := "_law_count") (st := sCountL) (by rfl)
  obtain ⟨oc_Lrow_count, od_Lrow_count, sl_Lrow_count, kV_Lrow_count, dc_Lrow_count, pm_Lrow_count, an_Lrow_count, cd_Lrow_count, ct_Lrow_count, l_Lrow_count, c_Lrow_count, k_Lrow_count⟩ := c.plain 32 (p := ("_law_row_count", none)) (x := "_law_row_count") (y := "_law_row_count") (st := sRowCL) (by rfl)
  obtain ⟨oc_Lis_work, od_Lis_work, sl_Lis_work, kV_Lis_work, dc_Lis_work, pm_Lis_work, an_Lis_work, cd_Lis_work, ct_Lis_work, l_Lis_work, c_Lis_work, k_Lis_work⟩ := c.plain 33 (p := ("_law_is_work", none)) (x := "_law_is_work") (y := "_law_is_work") (st := sWorkL) (by rfl)
  obtain ⟨oc_Lrefusal, od_Lrefusal, sl_Lrefusal, kV_Lrefusal, dc_Lrefusal, pm_Lrefusal, an_Lrefusal, cd_Lrefusal, ct_Lrefusal, l_Lrefusal, c_Lrefusal, k_Lrefusal⟩ := c.plain 34 (p := ("_law_refusal", none)) (x := "_law_refusal") (y := "_law_refusal") (st := sRefusal) (by rfl)
  obtain ⟨oc_Lsaid, od_Lsaid, sl_Lsaid, kV_Lsaid, dc_Lsaid, pm_Lsaid, an_Lsaid, cd_Lsaid, ct_Lsaid, l_Lsaid, c_Lsaid, k_Lsaid⟩ := c.plain 35 (p := ("_law_said", none)) (x := "_law_said") (y := "_law_said") (st := sSaid01) (by rfl)
  obtain ⟨oc_Ltwin, od_Ltwin, sl_Ltwin, kV_Ltwin, dc_Ltwin, pm_Ltwin, an_Ltwin, cd_Ltwin, ct_Ltwin, l_Ltwin, c_Ltwin, k_Ltwin⟩ := c.plain 36 (p := ("_law_twin", none)) (x := "_law_twin") (y := "_law_twin") (st := sTwin) (by rfl)
  obtain ⟨oc_Ldeeper, od_Ldeeper, sl_Ldeeper, kV_Ldeeper, dc_Ldeeper, pm_Ldeeper, an_Ldeeper, cd_Ldeeper, ct_Ldeeper, l_Ldeeper, c_Ldeeper, k_Ldeeper⟩ := c.plain 37 (p := ("_law_deeper", none)) (x := "_law_deeper") (y := "_law_deeper") (st := sDeeper) (by rfl)
  obtain ⟨oc_Ledges, od_Ledges, sl_Ledges, kV_Ledges, dc_Ledges, pm_Ledges, an_Ledges, cd_Ledges, ct_Ledges, l_Ledges, c_Ledges, k_Ledges⟩ := c.plain 38 (p := ("_law_edges", none)) (x := "_law_edges") (y := "_law_edges") (st := sEdges) (by rfl)
  obtain ⟨oc_law, od_law, sl_law, kV_law, dc_law, pm_law, an_law, cd_law, ct_law, l_law, c_law, k_law⟩ := c.plain 39 (p := ("law", none)) (x := "law") (y := "law") (st := sLaw) (by rfl)
  obtain ⟨tLt, gLt⟩ := HK.strAt_ok (c.fact 0 (f := fa_0) (by rfl))
  obtain ⟨t_MOST_ROWS, g_MOST_ROWS⟩ := HK.intAt_ok (c.fact 1 (f := fa_1) (by rfl))
  obtain ⟨t_MOST_NAMES, g_MOST_NAMES⟩ := HK.intAt_ok (c.fact 2 (f := fa_2) (by rfl))
  obtain ⟨t_MOST_EXPRESSIONS, g_MOST_EXPRESSIONS⟩ := HK.intAt_ok (c.fact 3 (f := fa_3) (by rfl))
  obtain ⟨t_MOST_IFS, g_MOST_IFS⟩ := HK.intAt_ok (c.fact 4 (f := fa_4) (by rfl))
  obtain ⟨t_MOST_LETTERS, g_MOST_LETTERS⟩ := HK.intAt_ok (c.fact 5 (f := fa_5) (by rfl))
  obtain ⟨t_MOST_ROOM, g_MOST_ROOM⟩ := HK.intAt_ok (c.fact 6 (f := fa_6) (by rfl))
  obtain ⟨t_MOST_NUMBER, g_MOST_NUMBER⟩ := HK.intAt_ok (c.fact 7 (f := fa_7) (by rfl))
  obtain ⟨t_NO_ROWS, g_NO_ROWS⟩ := HK.intAt_ok (c.fact 8 (f := fa_8) (by rfl))
  obtain ⟨dW, iW, nW, sW, lW, vW⟩ := HK.tupAt_ok (c.fact 9 (f := fa_9) (by rfl))
  obtain ⟨dS, iS, nS, sS, lS, vS⟩ := HK.tupAt_ok (c.fact 10 (f := fa_10) (by rfl))
  obtain ⟨oTD, iTD, nTD, lTD, oTD0, vTD⟩ := HK.seqAt_ok (c.fact 11 (f := fa_11) (by rfl))
  obtain ⟨a_check_work, a_is_work, a_is_tuple_of, a_is_whole, a_is_whole_within, a_is_name, a_are_names, a_is_expression, a_is_leaf, a_are_expressions⟩ := of_decide_eq_true (c.fact 12 (f := fa_12) (by rfl))
  obtain ⟨a_rows_left, a_row_left, a_branches_left, a_is_if_head, a_is_plain_row, a_Lbag, a_Ltake, a_Lkept, a_Lnames, a_Lnumber⟩ := of_decide_eq_true (c.fact 13 (f := fa_13) (by rfl))
  obtain ⟨a_Ltree, a_Lrow, a_Lrows, a_Lworks, a_Lany, a_Lspoilt, a_Lwhole, a_Lis_name, a_Ldeep, a_Lis_list⟩ := of_decide_eq_true (c.fact 14 (f := fa_14) (by rfl))
  obtain ⟨a_Lis_tree, a_Lcount, a_Lrow_count, a_Lis_work, a_Lrefusal, a_Lsaid, a_Ltwin, a_Ldeeper, a_Ledges, a_law⟩ := of_decide_eq_true (c.fact 15 (f := fa_15) (by rfl))
  obtain ⟨z_len, z_abs, z_int, z_str, z_range, z_max, z_min, z_isinstance, z_all, z_tuple⟩ := of_decide_eq_true (c.fact 16 (f := fa_16) (by rfl))
  obtain ⟨z_bool, z_set, z_list, z_repr, z_sum, z_ValueError, z_LookupError, z_RuntimeError, z_ArithmeticError, z_KeyError⟩ := of_decide_eq_true (c.fact 17 (f := fa_17) (by rfl))
  obtain ⟨z_IndexError, z_ZeroDivisionError, gW, gS, aBadText, aBadTree, aBadArgs, aBadHall, aBadTurn, aNoRow⟩ := of_decide_eq_true (c.fact 18 (f := fa_18) (by rfl))
  obtain ⟨aMissing, aBare, aSpent, aBroken, aStealError, kt_BadTree_BadText, kt_BadTree_BadTree, kt_BadTree_BadArgs, kt_BadTree_BadHall, kt_BadTree_BadTurn⟩ := of_decide_eq_true (c.fact 19 (f := fa_19) (by rfl))
  obtain ⟨kt_BadTree_NoRow, kt_BadTree_Missing, kt_BadTree_Bare, kt_BadTree_Spent, kt_BadTree_Broken, kt_BadTree_StealError, kt_BadTree_ValueError, kt_BadTree_LookupError, kt_BadTree_RuntimeError, kt_BadTree_ArithmeticError⟩ := of_decide_eq_true (c.fact 20 (f := fa_20) (by rfl))
  obtain ⟨kt_BadTree_KeyError, kt_BadTree_IndexError, kt_BadTree_ZeroDivisionError, xTS, BTex, BTkp, BTsb, BTty, isBT, BTga⟩ := of_decide_eq_true (c.fact 21 (f := fa_21) (by rfl))
  obtain ⟨BTgg, BTca, BTob, cgO, ctO⟩ := of_decide_eq_true (c.fact 22 (f := fa_22) (by rfl))
  refine' all_mk (l := PySem.Challenge.rw_stealhall_k01_works_of_any_thing) X G hfa a_check_work l_check_work c_check_work k_check_work a_is_work l_is_work c_is_work k_is_work a_is_tuple_of l_is_tuple_of c_is_tuple_of k_is_tuple_of a_is_whole l_is_whole c_is_whole k_is_whole a_is_whole_within l_is_whole_within c_is_whole_within k_is_whole_within a_is_name l_is_name c_is_name k_is_name a_are_names l_are_names c_are_names k_are_names a_is_expression l_is_expression c_is_expression k_is_expression a_is_leaf l_is_leaf c_is_leaf k_is_leaf a_are_expressions l_are_expressions c_are_expressions k_are_expressions a_rows_left l_rows_left c_rows_left k_rows_left a_row_left l_row_left c_row_left k_row_left a_branches_left l_branches_left c_branches_left k_branches_left a_is_if_head l_is_if_head c_is_if_head k_is_if_head a_is_plain_row l_is_plain_row c_is_plain_row k_is_plain_row a_Lbag l_Lbag c_Lbag k_Lbag a_Ltake l_Ltake c_Ltake k_Ltake a_Lkept l_Lkept c_Lkept k_Lkept a_Lnames l_Lnames c_Lnames k_Lnames a_Lnumber l_Lnumber c_Lnumber k_Lnumber a_Ltree l_Ltree c_Ltree k_Ltree a_Lrow l_Lrow c_Lrow k_Lrow a_Lrows l_Lrows c_Lrows k_Lrows a_Lworks l_Lworks c_Lworks k_Lworks a_Lany l_Lany c_Lany k_Lany a_Lspoilt l_Lspoilt c_Lspoilt k_Lspoilt a_Lwhole l_Lwhole c_Lwhole k_Lwhole a_Lis_name l_Lis_name c_Lis_name k_Lis_name a_Ldeep l_Ldeep c_Ldeep k_Ldeep a_Lis_list l_Lis_list c_Lis_list k_Lis_list a_Lis_tree l_Lis_tree c_Lis_tree k_Lis_tree a_Lcount l_Lcount c_Lcount k_Lcount a_Lrow_count l_Lrow_count c_Lrow_count k_Lrow_count a_Lis_work l_Lis_work c_Lis_work k_Lis_work a_Lrefusal l_Lrefusal c_Lrefusal k_Lrefusal a_Lsaid l_Lsaid c_Lsaid k_Lsaid a_Ltwin l_Ltwin c_Ltwin k_Ltwin a_Ldeeper l_Ldeeper c_Ldeeper k_Ldeeper a_Ledges l_Ledges c_Ledges k_Ledges a_law l_law c_law k_law z_len z_abs z_int z_str z_range z_max z_min z_isinstance z_all z_tuple z_bool z_set z_list z_repr z_sum z_ValueError z_LookupError z_RuntimeError z_ArithmeticError z_KeyError z_IndexError z_ZeroDivisionError gLt g_MOST_ROWS g_MOST_NAMES g_MOST_EXPRESSIONS g_MOST_IFS g_MOST_LETTERS g_MOST_ROOM g_MOST_NUMBER g_NO_ROWS gW lW vW gS lS vS lTD oTD0 vTD aBadText aBadTree aBadArgs aBadHall aBadTurn aNoRow aMissing aBare aSpent aBroken aStealError kt_BadTree_BadText kt_BadTree_BadTree kt_BadTree_BadArgs kt_BadTree_BadHall kt_BadTree_BadTurn kt_BadTree_NoRow kt_BadTree_Missing kt_BadTree_Bare kt_BadTree_Spent kt_BadTree_Broken kt_BadTree_StealError kt_BadTree_ValueError kt_BadTree_LookupError kt_BadTree_RuntimeError kt_BadTree_ArithmeticError kt_BadTree_KeyError kt_BadTree_IndexError kt_BadTree_ZeroDivisionError xTS BTex BTkp BTsb BTty isBT BTga BTgg BTca BTob cgO ctO
end SH
open PySem PySem.W PySem.Calls PyProof.Rows
set_option maxRecDepth 100000 in
set_option maxHeartbeats 0 in
theorem PySem.Challenge.cw_stealhall_k01_works_of_any_thing_holds : PySem.Challenge.rw_stealhall_k01_works_of_any_thing.Holds := by
  w_on; o_law
  refine HandSHeadRun.head_any (r := OpenLaw.row PySem.Challenge.rw_stealhall_k01_works_of_any_thing) (q := SH.qV) (H := SH.hK) (ob := SH.oB) (M := 20000) (loose := SH.nmLx) (d := HandSHeadRun.topDef (OpenLaw.row PySem.Challenge.rw_stealhall_k01_works_of_any_thing).prog 65) (kwd := []) SH.oB_eq
    (by kernel_rfl) (fun s => by kernel_rfl) SH.runA (by kernel_rfl) (by kernel_rfl) (by kernel_rfl) (by rfl) (by first | assumption | decide +kernel) (by decide +kernel) ⟨rfl, rfl, rfl, rfl, rfl, by decide +kernel⟩ ?hw ?hc
  case hw => w_witness2
  case hc =>
    refine SH.walk_GE (l := PySem.Challenge.rw_stealhall_k01_works_of_any_thing) (k := 80) (sp := SH.spLaw) rfl (by kernel_rfl) ⟨rfl, by decide, by decide⟩ ?F (fun K H a ns hl hS => ⟨a, ns, rfl, hS, hl, fun _ => rfl⟩)
    intro w mg fa h Y G hmg0
    obtain ⟨K, KX, c⟩ := Y
    have hmg : mg ("law" : PySem.Str) = some (.ref fa) := by
      have e : (HandSHeadRun.topDef (OpenLaw.row PySem.Challenge.rw_stealhall_k01_works_of_any_thing).prog 65).name = ("law" : PySem.Str) := by kernel_rfl
      rw [← e]
      exact hmg0
    exact ⟨K, KX, SH.facts KX G hmg c⟩
